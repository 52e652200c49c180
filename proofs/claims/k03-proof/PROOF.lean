import PyProof.Rows.All
import Wide.All
import OpenK.AllK
import Wide.FinOn
import HandS.ForMost
import HandS.NoneIn
import HandS.ForExc
import HandS.CallSlots
import HandS.IsInst
import HandS.Deep
import HandS.TupAny
import HandS.TupMul
import HandS.Wide
import HandS.Style
import HandS.Small
import HandS.Flow
import HandS.Star
import PyProof.WalksMore
import HandS.Zip
import PyProof.ReprRoads
import HandS.TryMany
import HandS.ExcField
import HandS.ExcIs
import HandS.ExcInit
import HandS.EndBits
import PyProof.ReprLen
import PyProof.P3Eq
import PySem.Challenge.RW_driveends_k03_vector_arithmetic
set_option Elab.async false
set_option linter.all false
set_option maxRecDepth 100000
set_option maxHeartbeats 4000000
/-! # A value-level reading of Python: shallow programs over data, sound for the hand layer's judgements -/
namespace EV
open PySem L2

/-- data: tuples and lists that nobody changes are trees; what is changed lies in a store, at a place -/
inductive D where
  | non | bl (b : Bool) | int (i : Int) | str (x : Str) | ty (n : String) | ref (a : Addr)
  | tup (ds : List D) | lst (ds : List D) | frz (ds : List D) | dct (ks : List Key) (ds : List D) | loc (n : Nat)
inductive Cell where
  | lst (ds : List D)
abbrev Sto := List Cell
abbrev Env := List (Option D)
structure Ex where
  cls : Value
  fs : Option (List (Str × D))
inductive Res (α : Type) where
  | ok (a : α) (S : Sto)
  | exc (e : Ex) (S : Sto)
  | stuck
def Res.bind {α β : Type} (r : Res α) (g : α → Sto → Res β) : Res β := match r with
  | .ok a S => g a S
  | .exc e S => .exc e S
  | .stuck => .stuck
@[simp] theorem bind_ok {α β : Type} (a : α) (S : Sto) (g : α → Sto → Res β) : (Res.ok a S).bind g = g a S := (fun _ => rfl) ()
@[simp] theorem bind_exc {α β : Type} (e : Ex) (S : Sto) (g : α → Sto → Res β) : (Res.exc e S).bind g = .exc e S := (fun _ => rfl) ()
@[simp] theorem bind_stuck {α β : Type} (g : α → Sto → Res β) : (Res.stuck : Res α).bind g = .stuck := (fun _ => rfl) ()

/-! ### relations -/
def Hn : Hp := fun _ => none
/-- where the store's objects lie, and what is kept out of sight (lists under construction) -/
structure Lay where
  st : List Addr
  hid : List Addr
def Lay.ok (ι : Lay) (a : Addr) : Prop := a ∉ ι.st ∧ a ∉ ι.hid
section
variable (K : PySem.W.Frag)
mutual
def RelD (ι : Lay) (H : Hp) : D → V → Prop
  | .non, v => v = .non
  | .bl b, v => v = .bl b
  | .int i, v => v = .int i
  | .str x, v => v = .str x
  | .ty n, v => v = .ty n
  | .ref a, v => v = .ref a
  | .tup ds, v => ∃ a xs, v = .ref a ∧ ((ι.ok a ∧ Rd H a (.tup xs)) ∨ SqT K Hn a xs) ∧ RelDs ι H ds xs
  | .lst ds, v => ∃ a xs, v = .ref a ∧ (ι.ok a ∧ H a = some (.lst xs)) ∧ RelDs ι H ds xs
  | .frz ds, v => ∃ a xs, v = .ref a ∧ ((ι.ok a ∧ Rd H a (.lst xs)) ∨ SqL K Hn a xs) ∧ RelDs ι H ds xs
  | .dct ks ds, v => ∃ a xs, v = .ref a ∧ (ι.ok a ∧ H a = some (.dK (ks.zip xs)) ∧ ks.length = xs.length) ∧ RelDs ι H ds xs
  | .loc n, v => ∃ a, v = .ref a ∧ ι.st[n]? = some a
def RelDs (ι : Lay) (H : Hp) : List D → List V → Prop
  | [], xs => xs = []
  | d :: ds, xs => ∃ x r, xs = x :: r ∧ RelD ι H d x ∧ RelDs ι H ds r
end
def RelC (ι : Lay) (H : Hp) : Cell → HO → Prop
  | .lst ds, o => ∃ xs, o = .lst xs ∧ RelDs K ι H ds xs
structure RelS (ι : Lay) (H : Hp) (S : Sto) : Prop where
  len : ι.st.length = S.length
  nd : ι.st.Nodup
  at_ : ∀ (n : Nat) (c : Cell), S[n]? = some c → ∃ a o, ι.st[n]? = some a ∧ H a = some o ∧ RelC K ι H c o
  hd : ∀ a ∈ ι.hid, a ∉ ι.st ∧ ∃ o, H a = some o
structure Ext (ι : Lay) (H : Hp) (ι' : Lay) (H' : Hp) : Prop where
  hid : ι'.hid = ι.hid
  pre : ι.st <+: ι'.st
  keep : ∀ a o, H a = some o → a ∉ ι.st → H' a = some o ∧ a ∉ ι'.st
/-- what a value's description leans on is kept -/
structure WExt (ι : Lay) (H : Hp) (ι' : Lay) (H' : Hp) : Prop where
  pre : ι.st <+: ι'.st
  keep : ∀ a o, H a = some o → ι.ok a → H' a = some o ∧ ι'.ok a
structure RelE (ι : Lay) (H : Hp) (σ : L2.St) (ρ : Env) : Prop where
  len : σ.length = ρ.length
  at_ : ∀ (i : Nat) (d : D), ρ[i]? = some (some d) → ∃ v, σ[i]? = some (some v) ∧ RelD K ι H d v
def RelX (ι : Lay) (H : Hp) (c : Value) (d : Option Addr) (e : Ex) : Prop :=
  c = e.cls ∧ match e.fs with
    | none => d = none
    | some fs => ∃ dd xs, d = some dd ∧ ι.ok dd ∧ H dd = some (.xd ((fs.map (·.1)).zip xs)) ∧ RelDs K ι H (fs.map (·.2)) xs
end
section
variable {K : PySem.W.Frag} {ι ι' ι'' : Lay} {H H' H'' : Hp}
theorem Ext.refl : Ext ι H ι H := ⟨rfl, List.prefix_refl _, fun _ _ h n => ⟨h, n⟩⟩
theorem Ext.trans (a : Ext ι H ι' H') (b : Ext ι' H' ι'' H'') : Ext ι H ι'' H'' :=
  ⟨b.hid.trans a.hid, a.pre.trans b.pre, fun c o h n => let ⟨h1, n1⟩ := a.keep c o h n; b.keep c o h1 n1⟩
theorem Ext.w (e : Ext ι H ι' H') : WExt ι H ι' H' := ⟨e.pre, fun a o h n => let ⟨h1, n1⟩ := e.keep a o h n.1; ⟨h1, n1, by rw [e.hid]; exact n.2⟩⟩
theorem WExt.rd {a : Addr} {u : HO} (e : WExt ι H ι' H') (n : ι.ok a) (h : Rd H a u) : ι'.ok a ∧ Rd H' a u := by
  rcases h with h | ⟨o, h⟩
  · exact ⟨(e.keep a _ h n).2, .inl (e.keep a _ h n).1⟩
  · exact ⟨(e.keep a _ h n).2, .inr ⟨o, (e.keep a _ h n).1⟩⟩
theorem Ext.rd {a : Addr} {u : HO} (e : Ext ι H ι' H') (n : ι.ok a) (h : Rd H a u) : ι'.ok a ∧ Rd H' a u := e.w.rd n h
theorem WExt.get (e : WExt ι H ι' H') {n : Nat} {a : Addr} (h : ι.st[n]? = some a) : ι'.st[n]? = some a := by
  obtain ⟨t, e2⟩ := e.pre
  rw [← e2]
  obtain ⟨hl, _⟩ := List.getElem?_eq_some_iff.mp h
  rw [List.getElem?_append_left hl]
  exact h
mutual
theorem RelD.wmono (e : WExt ι H ι' H') : ∀ (d : D) (v : V), RelD K ι H d v → RelD K ι' H' d v
  | .non, v, h => h
  | .bl b, v, h => h
  | .int i, v, h => h
  | .str x, v, h => h
  | .ty n, v, h => h
  | .ref a, v, h => h
  | .tup ds, v, h => by
    simp only [RelD] at h ⊢
    obtain ⟨a, xs, rfl, q, r⟩ := h
    refine ⟨a, xs, rfl, ?_, RelDs.wmono e ds xs r⟩
    rcases q with ⟨n, q⟩ | q
    · exact .inl (e.rd n q)
    · exact .inr q
  | .lst ds, v, h => by
    simp only [RelD] at h ⊢
    obtain ⟨a, xs, rfl, ⟨n, q⟩, r⟩ := h
    exact ⟨a, xs, rfl, ⟨(e.keep a _ q n).2, (e.keep a _ q n).1⟩, RelDs.wmono e ds xs r⟩
  | .frz ds, v, h => by
    simp only [RelD] at h ⊢
    obtain ⟨a, xs, rfl, q, r⟩ := h
    refine ⟨a, xs, rfl, ?_, RelDs.wmono e ds xs r⟩
    rcases q with ⟨n, q⟩ | q
    · exact .inl (e.rd n q)
    · exact .inr q
  | .dct ks ds, v, h => by
    simp only [RelD] at h ⊢
    obtain ⟨a, xs, rfl, ⟨n, q, l⟩, r⟩ := h
    exact ⟨a, xs, rfl, ⟨(e.keep a _ q n).2, (e.keep a _ q n).1, l⟩, RelDs.wmono e ds xs r⟩
  | .loc n, v, h => by
    simp only [RelD] at h ⊢
    obtain ⟨a, rfl, q⟩ := h
    exact ⟨a, rfl, e.get q⟩
theorem RelDs.wmono (e : WExt ι H ι' H') : ∀ (ds : List D) (xs : List V), RelDs K ι H ds xs → RelDs K ι' H' ds xs
  | [], xs, h => h
  | d :: ds, xs, h => by
    simp only [RelDs] at h ⊢
    obtain ⟨x, r, rfl, h1, h2⟩ := h
    exact ⟨x, r, rfl, RelD.wmono e d x h1, RelDs.wmono e ds r h2⟩
end
theorem RelD.mono (e : Ext ι H ι' H') {d : D} {v : V} (h : RelD K ι H d v) : RelD K ι' H' d v := RelD.wmono e.w d v h
theorem RelDs.mono (e : Ext ι H ι' H') {d : List D} {v : List V} (h : RelDs K ι H d v) : RelDs K ι' H' d v := RelDs.wmono e.w d v h
theorem RelDs.nil : RelDs K ι H [] [] := by simp only [RelDs]
theorem RelDs.cons {d : D} {ds : List D} {x : V} {xs : List V} (h : RelD K ι H d x) (r : RelDs K ι H ds xs) : RelDs K ι H (d :: ds) (x :: xs) := by
  simp only [RelDs]
  exact ⟨x, xs, rfl, h, r⟩
theorem RelDs.length : ∀ {ds : List D} {xs : List V}, RelDs K ι H ds xs → xs.length = ds.length
  | [], xs, h => by simp only [RelDs] at h; subst h; rfl
  | d :: ds, xs, h => by
    simp only [RelDs] at h
    obtain ⟨x, r, rfl, _, h2⟩ := h
    simp [h2.length]
theorem RelDs.get : ∀ {ds : List D} {xs : List V}, RelDs K ι H ds xs → ∀ {i : Nat} {d : D}, ds[i]? = some d → ∃ x, xs[i]? = some x ∧ RelD K ι H d x
  | [], xs, h, i, d, e => by simp at e
  | d :: ds, xs, h, i, d', e => by
    simp only [RelDs] at h
    obtain ⟨x, r, rfl, h1, h2⟩ := h
    cases i with
    | zero => simp at e; subst e; exact ⟨x, by simp, h1⟩
    | succ i =>
      obtain ⟨y, q1, q2⟩ := RelDs.get h2 (i := i) (d := d') (by simpa using e)
      exact ⟨y, by simpa using q1, q2⟩
theorem RelDs.get' {ds : List D} {xs : List V} (h : RelDs K ι H ds xs) {i : Nat} {x : V} (e : xs[i]? = some x) : ∃ d, ds[i]? = some d ∧ RelD K ι H d x := by
  have hl := h.length
  obtain ⟨h1, _⟩ := List.getElem?_eq_some_iff.mp e
  have h2 : i < ds.length := by omega
  obtain ⟨y, q1, q2⟩ := h.get (i := i) (d := ds[i]) (by simp [h2])
  rw [e] at q1
  cases q1
  exact ⟨ds[i], by simp [h2], q2⟩
theorem RelDs.append : ∀ {ds es : List D} {xs ys : List V}, RelDs K ι H ds xs → RelDs K ι H es ys → RelDs K ι H (ds ++ es) (xs ++ ys)
  | [], es, xs, ys, h, g => by simp only [RelDs] at h; subst h; simpa using g
  | d :: ds, es, xs, ys, h, g => by
    simp only [RelDs] at h
    obtain ⟨x, r, rfl, h1, h2⟩ := h
    exact .cons h1 (RelDs.append h2 g)
theorem RelDs.take : ∀ {ds : List D} {xs : List V} (n : Nat), RelDs K ι H ds xs → RelDs K ι H (ds.take n) (xs.take n)
  | [], xs, n, h => by simp only [RelDs] at h; subst h; simp [RelDs.nil]
  | d :: ds, xs, 0, h => by simp [RelDs.nil]
  | d :: ds, xs, n + 1, h => by
    simp only [RelDs] at h
    obtain ⟨x, r, rfl, h1, h2⟩ := h
    exact .cons h1 (RelDs.take n h2)
theorem RelDs.drop : ∀ {ds : List D} {xs : List V} (n : Nat), RelDs K ι H ds xs → RelDs K ι H (ds.drop n) (xs.drop n)
  | [], xs, n, h => by simp only [RelDs] at h; subst h; simp [RelDs.nil]
  | d :: ds, xs, 0, h => h
  | d :: ds, xs, n + 1, h => by
    simp only [RelDs] at h
    obtain ⟨x, r, rfl, h1, h2⟩ := h
    simpa using RelDs.drop n h2
theorem RelDs.set : ∀ {ds : List D} {xs : List V} (i : Nat) {d : D} {x : V}, RelDs K ι H ds xs → RelD K ι H d x → RelDs K ι H (ds.set i d) (xs.set i x)
  | [], xs, i, d, x, h, g => by simp only [RelDs] at h; subst h; simp [RelDs.nil]
  | d' :: ds, xs, 0, d, x, h, g => by
    simp only [RelDs] at h
    obtain ⟨y, r, rfl, h1, h2⟩ := h
    exact .cons g h2
  | d' :: ds, xs, i + 1, d, x, h, g => by
    simp only [RelDs] at h
    obtain ⟨y, r, rfl, h1, h2⟩ := h
    exact .cons h1 (RelDs.set i h2 g)
theorem RelDs.inv1 {d : D} {xs : List V} (h : RelDs K ι H [d] xs) : ∃ x, xs = [x] ∧ RelD K ι H d x := by
  simp only [RelDs] at h
  obtain ⟨x, r, rfl, h1, rfl⟩ := h
  exact ⟨x, rfl, h1⟩
theorem RelDs.inv2 {d e : D} {xs : List V} (h : RelDs K ι H [d, e] xs) : ∃ x y, xs = [x, y] ∧ RelD K ι H d x ∧ RelD K ι H e y := by
  simp only [RelDs] at h
  obtain ⟨x, r, rfl, h1, y, r2, rfl, h2, rfl⟩ := h
  exact ⟨x, y, rfl, h1, h2⟩
theorem RelC.wmono (e : WExt ι H ι' H') {c : Cell} {o : HO} (h : RelC K ι H c o) : RelC K ι' H' c o := by
  cases c with
  | lst ds =>
    obtain ⟨xs, rfl, r⟩ := h
    exact ⟨xs, rfl, RelDs.wmono e _ _ r⟩
theorem RelC.mono (e : Ext ι H ι' H') {c : Cell} {o : HO} (h : RelC K ι H c o) : RelC K ι' H' c o := h.wmono e.w
theorem RelE.wmono (e : WExt ι H ι' H') {σ : L2.St} {ρ : Env} (h : RelE K ι H σ ρ) : RelE K ι' H' σ ρ :=
  ⟨h.len, fun i d q => let ⟨v, a, b⟩ := h.at_ i d q; ⟨v, a, RelD.wmono e _ _ b⟩⟩
theorem RelE.mono (e : Ext ι H ι' H') {σ : L2.St} {ρ : Env} (h : RelE K ι H σ ρ) : RelE K ι' H' σ ρ := h.wmono e.w
theorem RelX.mono (e : Ext ι H ι' H') {c : Value} {d : Option Addr} {x : Ex} (h : RelX K ι H c d x) : RelX K ι' H' c d x := by
  obtain ⟨h1, h2⟩ := h
  refine ⟨h1, ?_⟩
  cases hf : x.fs with
  | none => rw [hf] at h2; exact h2
  | some fs =>
    rw [hf] at h2
    obtain ⟨dd, xs, q1, q2, q3, q4⟩ := h2
    exact ⟨dd, xs, q1, (e.w.keep _ _ q3 q2).2, (e.w.keep _ _ q3 q2).1, q4.mono e⟩
theorem RelS.mem {S : Sto} (h : RelS K ι H S) {a : Addr} (ha : a ∈ ι.st) : ∃ o, H a = some o := by
  obtain ⟨n, hn, e⟩ := List.getElem_of_mem ha
  have h2 : n < S.length := by rw [← h.len]; exact hn
  obtain ⟨b, o, e1, e2, _⟩ := h.at_ n S[n] (by simp [h2])
  have : ι.st[n]? = some a := by simp [hn, e]
  rw [this] at e1
  cases e1
  exact ⟨o, e2⟩
theorem RelS.fresh {S : Sto} (h : RelS K ι H S) {p : Addr} (hp : H p = none) : ι.ok p := by
  refine ⟨fun hm => ?_, fun hm => ?_⟩
  · obtain ⟨o, e⟩ := h.mem hm
    rw [hp] at e
    cases e
  · obtain ⟨_, o, e⟩ := h.hd p hm
    rw [hp] at e
    cases e
/-- a new object that stays as it is -/
theorem ext_new {S : Sto} (h : RelS K ι H S) {p : Addr} {o : HO} (hp : H p = none) : Ext ι H ι (upd H p o) :=
  ⟨rfl, List.prefix_refl _, fun a u e n => ⟨by rw [upd_ne (ne_of_none e hp)]; exact e, n⟩⟩
theorem RelS.same {S : Sto} (h : RelS K ι H S) (e : WExt ι H ι H') (k : ∀ a ∈ ι.st, H' a = H a) (k2 : ∀ a ∈ ι.hid, ∃ o, H' a = some o) : RelS K ι H' S :=
  ⟨h.len, h.nd, fun n c q => by
    obtain ⟨a, o, q1, q2, q3⟩ := h.at_ n c q
    exact ⟨a, o, q1, by rw [k a (List.mem_of_getElem? q1)]; exact q2, q3.wmono e⟩, fun a ha => ⟨(h.hd a ha).1, k2 a ha⟩⟩
theorem RelS.new {S : Sto} (h : RelS K ι H S) {p : Addr} {o : HO} (hp : H p = none) : RelS K ι (upd H p o) S :=
  h.same (ext_new h hp).w (fun a ha => by
    obtain ⟨u, e⟩ := h.mem ha
    exact upd_ne (ne_of_none e hp)) fun a ha => by
    obtain ⟨_, u, e⟩ := h.hd a ha
    exact ⟨u, by rw [upd_ne (ne_of_none e hp)]; exact e⟩
def Lay.add (ι : Lay) (p : Addr) : Lay := ⟨ι.st ++ [p], ι.hid⟩
/-- a new object into the store -/
theorem ext_alloc {S : Sto} (h : RelS K ι H S) {p : Addr} {o : HO} (hp : H p = none) : Ext ι H (ι.add p) (upd H p o) :=
  ⟨rfl, List.prefix_append _ _, fun a u e n => ⟨by rw [upd_ne (ne_of_none e hp)]; exact e, by
    have := ne_of_none e hp
    simp [Lay.add, n, this]⟩⟩
theorem RelS.alloc {S : Sto} (h : RelS K ι H S) {p : Addr} {o : HO} {c : Cell} (hp : H p = none) (hc : RelC K ι H c o) : RelS K (ι.add p) (upd H p o) (S ++ [c]) := by
  have e := ext_alloc (o := o) h hp
  refine ⟨by simp [Lay.add, h.len], ?_, fun n c' q => ?_, fun a ha => ?_⟩
  · show (ι.st ++ [p]).Nodup
    rw [List.nodup_append]
    exact ⟨h.nd, by simp, fun a ha b hb => by
      have : b = p := by simpa using hb
      subst this
      exact fun z => (h.fresh hp).1 (z ▸ ha)⟩
  · by_cases hn : n < S.length
    · rw [List.getElem?_append_left hn] at q
      obtain ⟨a, u, q1, q2, q3⟩ := h.at_ n c' q
      exact ⟨a, u, e.w.get q1, by rw [upd_ne (ne_of_none q2 hp)]; exact q2, q3.mono e⟩
    · have hn2 : n = S.length := by
        have := (List.getElem?_eq_some_iff.mp q).1
        simp at this
        omega
      subst hn2
      simp at q
      subst q
      exact ⟨p, o, by rw [← h.len]; simp [Lay.add], upd_same, hc.mono e⟩
  · obtain ⟨q1, u, q2⟩ := h.hd a ha
    have := ne_of_none q2 hp
    exact ⟨by simp [Lay.add, q1, this], u, by rw [upd_ne this]; exact q2⟩
/-- an object of the store changed -/
theorem ext_write {S : Sto} (h : RelS K ι H S) {n : Nat} {a : Addr} {o : HO} (ha : ι.st[n]? = some a) : Ext ι H ι (upd H a o) :=
  ⟨rfl, List.prefix_refl _, fun b u e nb => ⟨by rw [upd_ne (fun z => nb (by rw [z]; exact List.mem_of_getElem? ha))]; exact e, nb⟩⟩
theorem RelS.write {S : Sto} (h : RelS K ι H S) {n : Nat} {a : Addr} {o : HO} {c : Cell} (ha : ι.st[n]? = some a) (hc : RelC K ι H c o) : RelS K ι (upd H a o) (S.set n c) := by
  have e := ext_write (o := o) h ha
  refine ⟨by simp [h.len], h.nd, fun m c' q => ?_, fun b hb => ?_⟩
  · by_cases hm : n = m
    · subst hm
      have hn : n < S.length := by
        have := (List.getElem?_eq_some_iff.mp q).1
        simpa using this
      rw [List.getElem?_set_self hn] at q
      cases q
      exact ⟨a, o, ha, upd_same, hc.mono e⟩
    · rw [List.getElem?_set_ne hm] at q
      obtain ⟨b, u, q1, q2, q3⟩ := h.at_ m c' q
      refine ⟨b, u, q1, ?_, q3.mono e⟩
      rw [upd_ne]
      · exact q2
      · intro z
        subst z
        obtain ⟨h1, e1⟩ := List.getElem?_eq_some_iff.mp ha
        obtain ⟨h2, e2⟩ := List.getElem?_eq_some_iff.mp q1
        exact hm ((List.getElem_inj h.nd).mp (e1.trans e2.symm))
  · obtain ⟨q1, u, q2⟩ := h.hd b hb
    refine ⟨q1, u, ?_⟩
    rw [upd_ne (fun z => q1 (by rw [z]; exact List.mem_of_getElem? ha))]
    exact q2
/-- a new object out of sight; changed there; brought into sight -/
def Lay.hide (ι : Lay) (p : Addr) : Lay := ⟨ι.st, p :: ι.hid⟩
theorem wext_hide {p : Addr} {o : HO} (hp : H p = none) : WExt ι H (ι.hide p) (upd H p o) :=
  ⟨List.prefix_refl _, fun a u e n => ⟨by rw [upd_ne (ne_of_none e hp)]; exact e, n.1, by
    have := ne_of_none e hp
    simp [Lay.hide, this, n.2]⟩⟩
theorem RelS.hide {S : Sto} (h : RelS K ι H S) {p : Addr} {o : HO} (hp : H p = none) : RelS K (ι.hide p) (upd H p o) S := by
  have e := wext_hide (ι := ι) (o := o) hp
  refine ⟨h.len, h.nd, fun n c q => ?_, fun a ha => ?_⟩
  · obtain ⟨a, u, q1, q2, q3⟩ := h.at_ n c q
    exact ⟨a, u, q1, by rw [upd_ne (ne_of_none q2 hp)]; exact q2, q3.wmono e⟩
  · rcases List.mem_cons.mp ha with z | z
    · subst z
      exact ⟨(h.fresh hp).1, o, upd_same⟩
    · obtain ⟨q1, u, q2⟩ := h.hd a z
      exact ⟨q1, u, by rw [upd_ne (ne_of_none q2 hp)]; exact q2⟩
theorem wext_hid {p : Addr} {o : HO} (hp : p ∈ ι.hid) : WExt ι H ι (upd H p o) :=
  ⟨List.prefix_refl _, fun a u e n => ⟨by rw [upd_ne (fun z => n.2 (by rw [z]; exact hp))]; exact e, n⟩⟩
theorem RelS.hid {S : Sto} (h : RelS K ι H S) {p : Addr} {o : HO} (hp : p ∈ ι.hid) : RelS K ι (upd H p o) S := by
  refine h.same (wext_hid hp) (fun a ha => upd_ne (fun z => (h.hd p hp).1 (by rw [← z]; exact ha))) fun a ha => ?_
  by_cases z : a = p
  · exact ⟨o, by rw [z]; exact upd_same⟩
  · obtain ⟨_, u, q⟩ := h.hd a ha
    exact ⟨u, by rw [upd_ne z]; exact q⟩
theorem wext_show {p : Addr} : WExt (ι.hide p) H ι H := ⟨List.prefix_refl _, fun a u e n => ⟨e, n.1, fun z => n.2 (List.mem_cons_of_mem _ z)⟩⟩
theorem RelS.shown {S : Sto} {p : Addr} (h : RelS K (ι.hide p) H S) : RelS K ι H S :=
  ⟨h.len, h.nd, fun n c q => by
    obtain ⟨a, u, q1, q2, q3⟩ := h.at_ n c q
    exact ⟨a, u, q1, q2, q3.wmono wext_show⟩, fun a ha => h.hd a (List.mem_cons_of_mem _ ha)⟩
theorem RelE.set {σ : L2.St} {ρ : Env} (h : RelE K ι H σ ρ) {i : Nat} {d : D} {v : V} (r : RelD K ι H d v) : RelE K ι H (σ.set i (some v)) (ρ.set i (some d)) := by
  refine ⟨by simp [h.len], fun j d' q => ?_⟩
  by_cases hj : i = j
  · subst hj
    have hl : i < ρ.length := by
      have := (List.getElem?_eq_some_iff.mp q).1
      simpa using this
    rw [List.getElem?_set_self hl] at q
    cases q
    exact ⟨v, by rw [List.getElem?_set_self (by rw [h.len]; exact hl)], r⟩
  · rw [List.getElem?_set_ne hj] at q
    obtain ⟨w, q1, q2⟩ := h.at_ j d' q
    exact ⟨w, by rw [List.getElem?_set_ne hj]; exact q1, q2⟩
theorem RelE.wipe1 {σ : L2.St} {ρ : Env} (h : RelE K ι H σ ρ) (i : Nat) : RelE K ι H (σ.set i none) (ρ.set i none) := by
  refine ⟨by simp [h.len], fun j d' q => ?_⟩
  by_cases hj : i = j
  · subst hj
    by_cases hl : i < ρ.length
    · rw [List.getElem?_set_self hl] at q; cases q
    · rw [List.getElem?_eq_none (by simpa using hl)] at q; cases q
  · rw [List.getElem?_set_ne hj] at q
    obtain ⟨w, q1, q2⟩ := h.at_ j d' q
    exact ⟨w, by rw [List.getElem?_set_ne hj]; exact q1, q2⟩
def wipeD (ρ : Env) : List Nat → Env
  | [] => ρ
  | v :: vs => (wipeD ρ vs).set v none
theorem RelE.wipe {σ : L2.St} {ρ : Env} (h : RelE K ι H σ ρ) : ∀ vs : List Nat, RelE K ι H (L2.wipe σ vs) (wipeD ρ vs)
  | [] => h
  | v :: vs => (RelE.wipe h vs).wipe1 v
end

/-! ### what is wanted of a result -/
section
variable (K : PySem.W.Frag)
def Post {α : Type} (W : WX) (σ : L2.St) (ι : Lay) (H : Hp) (r : Res α) (k : Lay → Hp → α → Sto → Prop) : Prop :=
  match r with
  | .ok a S' => ∀ ι' H', Ext ι H ι' H' → RelS K ι' H' S' → k ι' H' a S'
  | .exc e S' => ∀ ι' H' c d, Ext ι H ι' H' → RelS K ι' H' S' → RelX K ι' H' c d e → W c d σ H'
  | .stuck => False
abbrev FE := Env → Sto → Res D
abbrev FT := Env → Sto → Res Bool
abbrev FA := Env → Sto → Res (List D)
def RE (W : WX) (f : FE) : TE := fun σ H Q => ∃ ι ρ S, RelS K ι H S ∧ RelE K ι H σ ρ ∧ Post K W σ ι H (f ρ S) fun ι' H' d _ => ∀ v, RelD K ι' H' d v → Q v H'
def RT (W : WX) (f : FT) : TT := fun σ H Q => ∃ ι ρ S, RelS K ι H S ∧ RelE K ι H σ ρ ∧ Post K W σ ι H (f ρ S) fun ι' H' b _ => Q b H'
def RA (W : WX) (f : FA) : TA := fun σ H Q => ∃ ι ρ S, RelS K ι H S ∧ RelE K ι H σ ρ ∧ Post K W σ ι H (f ρ S) fun ι' H' ds _ => ∀ vs, RelDs K ι' H' ds vs → Q vs H'
end
section
variable {K : PySem.W.Frag} {W : WX} {σ : L2.St} {ι ι' : Lay} {H H' : Hp} {α β : Type}
theorem Post.mono {r : Res α} {k : Lay → Hp → α → Sto → Prop} (e : Ext ι H ι' H') (h : Post K W σ ι H r k) : Post K W σ ι' H' r k := by
  cases r with
  | ok a S' => exact fun ι2 H2 e2 s2 => h ι2 H2 (e.trans e2) s2
  | exc x S' => exact fun ι2 H2 c d e2 s2 r2 => h ι2 H2 c d (e.trans e2) s2 r2
  | stuck => exact h
theorem Post.imp {r : Res α} {k k' : Lay → Hp → α → Sto → Prop} (h : Post K W σ ι H r k) (f : ∀ ι' H' a S', Ext ι H ι' H' → RelS K ι' H' S' → k ι' H' a S' → k' ι' H' a S') : Post K W σ ι H r k' := by
  cases r with
  | ok a S' => exact fun ι2 H2 e2 s2 => f ι2 H2 a S' e2 s2 (h ι2 H2 e2 s2)
  | exc x S' => exact h
  | stuck => exact h
theorem Post.bind {r : Res α} {g : α → Sto → Res β} {k : Lay → Hp → β → Sto → Prop} (h : Post K W σ ι H (r.bind g) k) :
    Post K W σ ι H r fun ι' H' a S' => Post K W σ ι' H' (g a S') k := by
  cases r with
  | ok a S' => exact fun ι2 H2 e2 s2 => Post.mono e2 h
  | exc x S' => exact h
  | stuck => exact h
theorem Post.ok {a : α} {S : Sto} {k : Lay → Hp → α → Sto → Prop} (h : Post K W σ ι H (.ok a S) k) (s : RelS K ι H S) : k ι H a S := h ι H Ext.refl s
theorem Post.at_ {a : α} {S : Sto} {k : Lay → Hp → α → Sto → Prop} (h : Post K W σ ι H (.ok a S) k) (e : Ext ι H ι' H') (s : RelS K ι' H' S) : k ι' H' a S := h ι' H' e s
end
end EV

namespace EV
open PySem L2
section
variable {X : Cx} {W : WX}
/-! ### names, constants -/
def eVar (i : Nat) : FE := fun ρ S => match ρ[i]? with
  | some (some d) => .ok d S
  | _ => .stuck
def eC (d : D) : FE := fun _ S => .ok d S
def eStuck : FE := fun _ _ => .stuck
theorem se_var {i : Nat} {x : Str} {pos : Pos} (hN : X.N[i]? = some x) (hv : Vis X.env.scope x) (hd : (x == ("__debug__" : Str)) = false) (hcd : (x == ("__classdict__" : Str)) = false) : PE X (.Name x pos) (RE X.K W (eVar i)) := by
  refine ⟨fun pins s σ H Q I h => (pe_var hN hv hd hcd).run pins s σ H Q I ?_⟩
  obtain ⟨ι, ρ, S, hS, hE, hp⟩ := h
  unfold eVar at hp
  split at hp
  · rename_i d e
    obtain ⟨v, e2, r⟩ := hE.at_ i d e
    exact ⟨v, e2, hp.ok hS v r⟩
  · exact hp.elim
theorem PE.weak {e : Expr} {t t' : TE} (h : PE X e t) (w : ∀ σ H Q, t' σ H Q → t σ H Q) : PE X e t' := ⟨fun pins s σ H Q I q => h.run pins s σ H Q I (w σ H Q q)⟩
theorem PT.weak {e : Expr} {t t' : TT} (h : PT X e t) (w : ∀ σ H Q, t' σ H Q → t σ H Q) : PT X e t' := ⟨fun pins s σ H Q I q => h.run pins s σ H Q I (w σ H Q q)⟩
theorem PW.weak {e : Expr} {t t' : TT} (h : PW X e t) (w : ∀ σ H Q, t' σ H Q → t σ H Q) : PW X e t' := ⟨fun wh pins s σ H Q I q => h.run wh pins s σ H Q I (w σ H Q q)⟩
theorem PA.weak {es : List Expr} {t t' : TA} (h : PA X es t) (w : ∀ σ H Q, t' σ H Q → t σ H Q) : PA X es t' := ⟨fun p pins s σ H Q I q => h.run p pins s σ H Q I (w σ H Q q)⟩
theorem se_c {e : Expr} {v : V} {d : D} (h : PE X e (tC v)) (r : ∀ ι H, RelD X.K ι H d v) : PE X e (RE X.K W (eC d)) :=
  PE.weak h fun σ H Q ⟨ι, ρ, S, hS, hE, hp⟩ => hp.ok hS v (r ι H)
theorem se_stuck {e : Expr} : PE X e (RE X.K W eStuck) := ⟨fun pins s σ H Q I ⟨ι, ρ, S, hS, hE, hp⟩ => hp.elim⟩
/-! ### operators -/
abbrev G2 := Sto → D → D → Option D
def ofOpt {α : Type} (o : Option α) (S : Sto) : Res α := match o with
  | some d => .ok d S
  | none => .stuck
@[simp] theorem ofOpt_some {α : Type} (d : α) (S : Sto) : ofOpt (some d) S = .ok d S := (fun _ => rfl) ()
@[simp] theorem ofOpt_none {α : Type} (S : Sto) : ofOpt (none : Option α) S = .stuck := (fun _ => rfl) ()
def OpG (X : Cx) (f : Value → Value → Sem Value) (g : G2) : Prop := ∃ r, OpR X f r ∧ ∀ (ι : Lay) (H : Hp) (S : Sto) (x y : V) (d e z : D) (Q : VK), RelS X.K ι H S → RelD X.K ι H d x → RelD X.K ι H e y → g S d e = some z →
  (∀ H' v, Ext ι H ι H' → RelS X.K ι H' S → RelD X.K ι H' z v → Q v H') → r x y H Q
def eBin (g : G2) (a b : FE) : FE := fun ρ S => (a ρ S).bind fun x S1 => (b ρ S1).bind fun y S2 => ofOpt (g S2 x y) S2
theorem bin_weak {g : G2} {f : Value → Value → Sem Value} {r : R2} {fa fb : FE} (hr : ∀ (ι : Lay) (H : Hp) (S : Sto) (x y : V) (d e z : D) (Q : VK), RelS X.K ι H S → RelD X.K ι H d x → RelD X.K ι H e y → g S d e = some z →
    (∀ H' v, Ext ι H ι H' → RelS X.K ι H' S → RelD X.K ι H' z v → Q v H') → r x y H Q) (σ : L2.St) (H : Hp) (Q : VK) (h : RE X.K W (eBin g fa fb) σ H Q) : tOp r (RE X.K W fa) (RE X.K W fb) σ H Q := by
  obtain ⟨ι, ρ, S, hS, hE, hp⟩ := h
  refine ⟨ι, ρ, S, hS, hE, (Post.bind hp).imp fun ι1 H1 d S1 e1 s1 p1 x rx => ?_⟩
  refine ⟨ι1, ρ, S1, s1, hE.mono e1, (Post.bind p1).imp fun ι2 H2 d2 S2 e2 s2 p2 y ry => ?_⟩
  cases hg : g S2 d d2 with
  | none => rw [hg] at p2; exact p2.elim
  | some z =>
    rw [hg] at p2
    exact hr ι2 H2 S2 x y d d2 z Q s2 (rx.mono e2) ry hg fun H' v e' s' rz => p2 ι2 H' e' s' v rz
theorem se_bin {op : Operator} {a b : Expr} {pos : Pos} {g : G2} {fa fb : FE} (hg : OpG X (binaryOp op) g) (ha : PE X a (RE X.K W fa)) (hb : PE X b (RE X.K W fb)) : PE X (.BinOp a op b pos) (RE X.K W (eBin g fa fb)) := by
  obtain ⟨r, ho, hr⟩ := hg
  exact PE.weak (pe_op ho ha hb) (bin_weak (f := binaryOp op) hr)
theorem se_cmp {op : CmpOp} {a b : Expr} {pos : Pos} {g : G2} {fa fb : FE} (hg : OpG X (compareOp op) g) (ha : PE X a (RE X.K W fa)) (hb : PE X b (RE X.K W fb)) (hm : behindInMarks op b = false) : PE X (.Compare a [op] [b] pos) (RE X.K W (eBin g fa fb)) := by
  obtain ⟨r, ho, hr⟩ := hg
  exact PE.weak (pe_cmpR ho ha hb hm) (bin_weak (f := compareOp op) hr)
/-- of two rules the one that serves -/
def gOr (g g' : G2) : G2 := fun S d e => match g S d e with
  | some z => some z
  | none => g' S d e
theorem OpG.or {f : Value → Value → Sem Value} {g g' : G2} (h : OpG X f g) (h' : OpG X f g') : OpG X f (gOr g g') := by
  obtain ⟨r, ho, hr⟩ := h
  obtain ⟨r', ho', hr'⟩ := h'
  refine ⟨_, ho.or ho', fun ι H S x y d e z Q hS rx ry hz k => ?_⟩
  unfold gOr at hz
  cases hg : g S d e with
  | some z' => rw [hg] at hz; cases hz; exact .inl (hr ι H S x y d e _ Q hS rx ry hg k)
  | none => rw [hg] at hz; exact .inr (hr' ι H S x y d e _ Q hS rx ry hz k)
/-- two ints -/
def gI (C : Int → Int → Bool) (f : Int → Int → D) : G2 := fun _ d e => match d, e with
  | .int i, .int j => if C i j = true then some (f i j) else none
  | _, _ => none
theorem opg_I {f : Value → Value → Sem Value} {C : Int → Int → Prop} {Cb : Int → Int → Bool} {g : Int → Int → V} {gd : Int → Int → D} (ho : OpR X f (rI C g)) (hc : ∀ i j, Cb i j = true → C i j) (hg : ∀ ι H i j, RelD X.K ι H (gd i j) (g i j)) : OpG X f (gI Cb gd) := by
  refine ⟨_, ho, fun ι H S x y d e z Q hS rx ry hz k => ?_⟩
  unfold gI at hz
  split at hz
  · rename_i i j
    simp only [RelD] at rx ry
    subst rx ry
    split at hz
    · rename_i h
      cases hz
      exact ⟨i, j, rfl, rfl, hc i j h, k H _ Ext.refl hS (hg _ _ i j)⟩
    · cases hz
  · cases hz
theorem opg_I0 {f : Value → Value → Sem Value} {g : Int → Int → V} {gd : Int → Int → D} (ho : OpR X f (rI0 g)) (hg : ∀ ι H i j, RelD X.K ι H (gd i j) (g i j)) : OpG X f (gI (fun _ _ => true) gd) := by
  refine ⟨_, ho, fun ι H S x y d e z Q hS rx ry hz k => ?_⟩
  unfold gI at hz
  split at hz
  · rename_i i j
    simp only [RelD] at rx ry
    subst rx ry
    simp only [if_true] at hz
    cases hz
    exact ⟨i, j, rfl, rfl, k H _ Ext.refl hS (hg _ _ i j)⟩
  · cases hz
theorem relD_int {K : PySem.W.Frag} {ι : Lay} {H : Hp} (i : Int) : RelD K ι H (.int i) (.int i) := by simp only [RelD]
theorem relD_bl {K : PySem.W.Frag} {ι : Lay} {H : Hp} (b : Bool) : RelD K ι H (.bl b) (.bl b) := by simp only [RelD]
theorem relD_str {K : PySem.W.Frag} {ι : Lay} {H : Hp} (b : Str) : RelD K ι H (.str b) (.str b) := by simp only [RelD]
theorem relD_non {K : PySem.W.Frag} {ι : Lay} {H : Hp} : RelD K ι H .non .non := by simp only [RelD]
def big64 (i : Int) : Bool := decide (-(2 ^ 64) < i) && decide (i < 2 ^ 64)
/-- one of the factors small, or both together below a million bits -/
def mulOk (i j : Int) : Bool := big64 i || big64 j || decide (i.natAbs.log2 + j.natAbs.log2 < 900000)
def fdivOk (i j : Int) : Bool := decide (0 < j) && decide (j.natAbs.log2 < 9000)
def powOk (i j : Int) : Bool := decide (0 ≤ j) && decide (j ≤ 1000000) && decide (i.natAbs < 2 ^ 64)
def gAddI : G2 := gI (fun _ _ => true) fun i j => .int (i + j)
def gSubI : G2 := gI (fun _ _ => true) fun i j => .int (i - j)
theorem og_addI : OpG X (binaryOp .Add) gAddI := opg_I0 op_add fun _ _ i j => relD_int _
theorem og_subI : OpG X (binaryOp .Sub) gSubI := opg_I0 op_sub fun _ _ i j => relD_int _
def gModI : G2 := gI (fun _ j => decide (0 < j)) fun i j => .int (i % j)
theorem og_modI : OpG X (binaryOp .Mod) gModI := opg_I op_mod (fun _ _ h => of_decide_eq_true h) fun _ _ i j => relD_int _
def gPowI : G2 := gI powOk fun i j => .int (i ^ j.toNat)
theorem og_powI : OpG X (binaryOp .Pow) gPowI := opg_I op_pow (fun _ _ h => by
  unfold powOk at h
  simp only [Bool.and_eq_true, decide_eq_true_eq] at h
  exact ⟨h.1.1, h.1.2, h.2⟩) fun _ _ i j => relD_int _
def gCmpI (f : Int → Int → Bool) : G2 := gI (fun _ _ => true) fun i j => .bl (f i j)
theorem og_lt : OpG X (compareOp .Lt) (gCmpI fun i j => decide (i < j)) := opg_I0 op_lt fun _ _ i j => relD_bl _
theorem og_le : OpG X (compareOp .LtE) (gCmpI fun i j => decide (i ≤ j)) := opg_I0 op_le fun _ _ i j => relD_bl _
theorem og_gt : OpG X (compareOp .Gt) (gCmpI fun i j => decide (j < i)) := opg_I0 op_gt fun _ _ i j => relD_bl _
theorem og_ge : OpG X (compareOp .GtE) (gCmpI fun i j => decide (j ≤ i)) := opg_I0 op_ge fun _ _ i j => relD_bl _
end
end EV

namespace EV
open PySem L2 PySem.Spec PyProof.Rows
section
variable {X : Cx} {W : WX}
/-! ### more operators -/
theorem relD_tup_new {K : PySem.W.Frag} {ι : Lay} {H : Hp} {p : Addr} {ds : List D} {xs : List V} (hp : ι.ok p) (h : H p = some (.tup xs)) (r : RelDs K ι H ds xs) : RelD K ι H (.tup ds) (.ref p) := by
  simp only [RelD]
  exact ⟨p, xs, rfl, .inl ⟨hp, .inl h⟩, r⟩
theorem relD_lst_new {K : PySem.W.Frag} {ι : Lay} {H : Hp} {p : Addr} {ds : List D} {xs : List V} (hp : ι.ok p) (h : H p = some (.lst xs)) (r : RelDs K ι H ds xs) : RelD K ι H (.lst ds) (.ref p) := by
  simp only [RelD]
  exact ⟨p, xs, rfl, ⟨hp, h⟩, r⟩
theorem sqT_of {K : PySem.W.Frag} {ι : Lay} {H : Hp} {a : Addr} {xs : List V} (q : (ι.ok a ∧ Rd H a (.tup xs)) ∨ SqT K Hn a xs) : SqT K H a xs := by
  rcases q with ⟨_, q⟩ | q
  · exact .inl q
  · rcases q with q | q
    · rcases q with q | ⟨o, q⟩ <;> cases q
    · exact .inr q
theorem sqL_of {K : PySem.W.Frag} {ι : Lay} {H : Hp} {a : Addr} {xs : List V} (q : (ι.ok a ∧ Rd H a (.lst xs)) ∨ SqL K Hn a xs) : SqL K H a xs := by
  rcases q with ⟨_, q⟩ | q
  · exact .inl q
  · rcases q with q | q
    · rcases q with q | ⟨o, q⟩ <;> cases q
    · exact .inr q
/-- a new tuple, a new list of given items -/
theorem new_tup {K : PySem.W.Frag} {ι : Lay} {H : Hp} {S : Sto} {ds : List D} {xs : List V} {Q : VK} (hS : RelS K ι H S) (r : RelDs K ι H ds xs) (k : ∀ H' v, Ext ι H ι H' → RelS K ι H' S → RelD K ι H' (.tup ds) v → Q v H') (p : Addr) (hp : H p = none) : Q (.ref p) (upd H p (.tup xs)) :=
  k _ _ (ext_new hS hp) (hS.new hp) (relD_tup_new (hS.fresh hp) upd_same (r.mono (ext_new hS hp)))
theorem new_lst {K : PySem.W.Frag} {ι : Lay} {H : Hp} {S : Sto} {ds : List D} {xs : List V} {Q : VK} (hS : RelS K ι H S) (r : RelDs K ι H ds xs) (k : ∀ H' v, Ext ι H ι H' → RelS K ι H' S → RelD K ι H' (.lst ds) v → Q v H') (p : Addr) (hp : H p = none) : Q (.ref p) (upd H p (.lst xs)) :=
  k _ _ (ext_new hS hp) (hS.new hp) (relD_lst_new (hS.fresh hp) upd_same (r.mono (ext_new hS hp)))

def gMulI : G2 := gI mulOk fun i j => .int (i * j)
theorem og_mulI : OpG X (binaryOp .Mult) gMulI := by
  have h2 : OpR X (binaryOp .Mult) (rI (fun i j => CMul i j ∨ CMulW i j) fun i j => .int (i * j)) := opI fun _ _ _ _ _ _ _ hc q => mul_int q (hc.elim (fun h => h.ok) fun h => h.ok)
  refine opg_I h2 (fun i j h => ?_) fun _ _ i j => relD_int _
  unfold mulOk big64 at h
  simp only [Bool.or_eq_true, Bool.and_eq_true, decide_eq_true_eq] at h
  rcases h with (h | h) | h
  · exact .inl (.inl h)
  · exact .inl (.inr h)
  · right; show _ < 1000000; omega
def gFDivI : G2 := gI fdivOk fun i j => .int (i / j)
theorem og_fdivI : OpG X (binaryOp .FloorDiv) gFDivI := opg_I op_fdivW (fun i j h => by
  unfold fdivOk at h
  simp only [Bool.and_eq_true, decide_eq_true_eq] at h
  exact h) fun _ _ i j => relD_int _
def powOkW (i j : Int) : Bool := decide (0 ≤ j) && decide ((Builtin.Int.intBits i : Int) * j ≤ 2 ^ 27)
def gPowW : G2 := gI powOkW fun i j => .int (i ^ j.toNat)
theorem og_powW : OpG X (binaryOp .Pow) gPowW := by
  have h2 : OpR X (binaryOp .Pow) (rI (fun i j => 0 ≤ j ∧ (Builtin.Int.intBits i : Int) * j ≤ 2 ^ 27) fun i j => .int (i ^ j.toNat)) := opI fun _ _ _ _ _ _ _ hc q => pow_int hc.1 hc.2 q
  refine opg_I h2 (fun i j h => ?_) fun _ _ i j => relD_int _
  unfold powOkW at h
  simp only [Bool.and_eq_true, decide_eq_true_eq] at h
  exact h
/-- texts -/
def sz (n : Nat) : Bool := decide (n ≤ 16777216)
theorem sz_ok {n : Nat} (h : sz n = true) : n ≤ sizeLine := by rw [sizeLine_eq]; exact of_decide_eq_true h
theorem sz_lt {n : Nat} (h : sz (n + 1) = true) : n < sizeLine := by rw [sizeLine_eq]; exact of_decide_eq_true h
def gAddS : G2 := fun _ d e => match d, e with
  | .str x, .str y => if sz (x.length + y.length) = true then some (.str (x ++ y)) else none
  | _, _ => none
theorem og_addS : OpG X (binaryOp .Add) gAddS := by
  refine ⟨_, op_add_str, fun ι H S x y d e z Q hS rx ry hz k => ?_⟩
  unfold gAddS at hz
  split at hz
  · rename_i a b
    simp only [RelD] at rx ry
    subst rx ry
    split at hz
    · rename_i h
      cases hz
      exact ⟨a, b, rfl, rfl, sz_ok h, k H _ Ext.refl hS (relD_str _)⟩
    · cases hz
  · cases hz
/-- tuples -/
def gAddT : G2 := fun _ d e => match d, e with
  | .tup x, .tup y => if sz (x.length + y.length) = true then some (.tup (x ++ y)) else none
  | _, _ => none
theorem og_addT : OpG X (binaryOp .Add) gAddT := by
  refine ⟨_, op_catA, fun ι H S x y d e z Q hS rx ry hz k => ?_⟩
  unfold gAddT at hz
  split at hz
  · rename_i ds es
    simp only [RelD] at rx ry
    obtain ⟨a, xs, rfl, qa, ra⟩ := rx
    obtain ⟨b, ys, rfl, qb, rb⟩ := ry
    have la := ra.length
    have lb := rb.length
    split at hz
    · rename_i h
      cases hz
      refine ⟨a, b, xs, ys, rfl, rfl, sqT_of qa, sqT_of qb, by rw [la, lb]; exact sz_ok h, fun e => ?_, fun _ e => ?_, fun _ _ p hp => new_tup hS (ra.append rb) k p hp⟩
      · subst e
        have : ds = [] := List.eq_nil_of_length_eq_zero la.symm
        subst this
        exact k H _ Ext.refl hS (by simp only [RelD]; exact ⟨b, ys, rfl, qb, rb⟩)
      · subst e
        have : es = [] := List.eq_nil_of_length_eq_zero lb.symm
        subst this
        exact k H _ Ext.refl hS (by simp only [RelD, List.append_nil]; exact ⟨a, xs, rfl, qa, ra⟩)
    · cases hz
  · cases hz
/-- the items of a list: a tree, or in the store -/
def items (S : Sto) : D → Option (List D)
  | .lst ds => some ds
  | .loc n => match S[n]? with
    | some (.lst ds) => some ds
    | none => none
  | _ => none
theorem items_ok {K : PySem.W.Frag} {ι : Lay} {H : Hp} {S : Sto} {d : D} {v : V} {ds : List D} (hS : RelS K ι H S) (r : RelD K ι H d v) (h : items S d = some ds) : ∃ a xs, v = .ref a ∧ H a = some (.lst xs) ∧ RelDs K ι H ds xs := by
  unfold items at h
  split at h
  · cases h
    simp only [RelD] at r
    obtain ⟨a, xs, rfl, q, r⟩ := r
    exact ⟨a, xs, rfl, q.2, r⟩
  · rename_i n
    split at h
    · rename_i ds' e
      cases h
      obtain ⟨a, o, e1, e2, xs, rfl, r2⟩ := hS.at_ n _ e
      simp only [RelD] at r
      obtain ⟨b, rfl, e3⟩ := r
      rw [e1] at e3
      cases e3
      exact ⟨a, xs, rfl, e2, r2⟩
    · cases h
  · cases h
/-- .. to be read: a frozen one too -/
def itemsR (S : Sto) : D → Option (List D)
  | .frz ds => some ds
  | d => items S d
theorem itemsR_ok {K : PySem.W.Frag} {ι : Lay} {H : Hp} {S : Sto} {d : D} {v : V} {ds : List D} (hS : RelS K ι H S) (r : RelD K ι H d v) (h : itemsR S d = some ds) : ∃ a xs, v = .ref a ∧ SqL K H a xs ∧ RelDs K ι H ds xs := by
  unfold itemsR at h
  split at h
  · cases h
    simp only [RelD] at r
    obtain ⟨a, xs, rfl, q, r⟩ := r
    exact ⟨a, xs, rfl, sqL_of q, r⟩
  · obtain ⟨a, xs, rfl, q, r⟩ := items_ok hS r h
    exact ⟨a, xs, rfl, .of q, r⟩
/-- .. a tuple's -/
def itemsT : D → Option (List D)
  | .tup ds => some ds
  | _ => none
theorem itemsT_ok {K : PySem.W.Frag} {ι : Lay} {H : Hp} {d : D} {v : V} {ds : List D} (r : RelD K ι H d v) (h : itemsT d = some ds) : ∃ a xs, v = .ref a ∧ SqT K H a xs ∧ RelDs K ι H ds xs := by
  unfold itemsT at h
  split at h
  · cases h
    simp only [RelD] at r
    obtain ⟨a, xs, rfl, q, r⟩ := r
    exact ⟨a, xs, rfl, sqT_of q, r⟩
  · cases h
def gAddL : G2 := fun S d e => match items S d, items S e with
  | some x, some y => if sz (x.length + y.length) = true then some (.lst (x ++ y)) else none
  | _, _ => none
theorem og_addL : OpG X (binaryOp .Add) gAddL := by
  refine ⟨_, op_cat, fun ι H S x y d e z Q hS rx ry hz k => ?_⟩
  unfold gAddL at hz
  split at hz
  · rename_i ds es h1 h2
    obtain ⟨a, xs, rfl, qa, ra⟩ := items_ok hS rx h1
    obtain ⟨b, ys, rfl, qb, rb⟩ := items_ok hS ry h2
    split at hz
    · rename_i h
      cases hz
      exact ⟨a, b, xs, ys, rfl, rfl, qa, qb, by rw [ra.length, rb.length]; exact sz_ok h, fun p hp => new_lst hS (ra.append rb) k p hp⟩
    · cases hz
  · cases hz
theorem RelDs.rep {K : PySem.W.Frag} {ι : Lay} {H : Hp} {ds : List D} {xs : List V} (h : RelDs K ι H ds xs) : ∀ k : Nat, RelDs K ι H (List.replicate k ds).flatten (List.replicate k xs).flatten
  | 0 => by simp [RelDs.nil]
  | k + 1 => by
    rw [List.replicate_succ, List.replicate_succ, List.flatten_cons, List.flatten_cons]
    exact h.append (RelDs.rep h k)
def gRepL : G2 := fun S d e => match items S d, e with
  | some x, .int k => if (decide (-(2 ^ 63) ≤ k) && decide (k < 2 ^ 63) && sz (x.length * k.toNat)) = true then some (.lst (List.replicate k.toNat x).flatten) else none
  | _, _ => none
theorem og_repL : OpG X (binaryOp .Mult) gRepL := by
  refine ⟨_, op_rep, fun ι H S x y d e z Q hS rx ry hz k => ?_⟩
  unfold gRepL at hz
  split at hz
  · rename_i ds n h1
    obtain ⟨a, xs, rfl, qa, ra⟩ := items_ok hS rx h1
    simp only [RelD] at ry
    subst ry
    split at hz
    · rename_i h
      simp only [Bool.and_eq_true, decide_eq_true_eq] at h
      cases hz
      exact ⟨a, n, xs, rfl, rfl, qa, h.1.1, h.1.2, by rw [ra.length]; exact sz_ok h.2, fun p hp => new_lst hS (ra.rep _) k p hp⟩
    · cases hz
  · cases hz
def gRepT : G2 := fun _ d e => match d, e with
  | .tup x, .int k => if (!x.isEmpty && decide (2 ≤ k) && decide (k ≤ 1000) && decide (x.length ≤ 1000)) = true then some (.tup (List.replicate k.toNat x).flatten) else none
  | _, _ => none
theorem og_repT : OpG X (binaryOp .Mult) gRepT := by
  refine ⟨_, op_repT, fun ι H S x y d e z Q hS rx ry hz k => ?_⟩
  unfold gRepT at hz
  split at hz
  · rename_i ds n
    simp only [RelD] at rx ry
    obtain ⟨a, xs, rfl, qa, ra⟩ := rx
    subst ry
    split at hz
    · rename_i h
      simp only [Bool.and_eq_true, decide_eq_true_eq, Bool.not_eq_true'] at h
      cases hz
      have hl := ra.length
      refine ⟨a, n, xs, rfl, rfl, sqT_of qa, fun e => ?_, h.1.1.2, h.1.2, by rw [hl]; exact h.2, fun p hp => new_tup hS (ra.rep _) k p hp⟩
      subst e
      have : ds = [] := List.eq_nil_of_length_eq_zero hl.symm
      subst this
      simp at h
    · cases hz
  · cases hz
/-! == and != of data -/
mutual
def toP (S : Sto) : D → Option PyData
  | .non => some .none
  | .bl b => some (.bool b)
  | .int i => some (.int i)
  | .str x => some (.str x)
  | .tup ds => (toPs S ds).map .tuple
  | .lst ds => (toPs S ds).map .list
  | .frz ds => (toPs S ds).map .list
  | _ => none
def toPs (S : Sto) : List D → Option (List PyData)
  | [] => some []
  | d :: ds => match toP S d, toPs S ds with
    | some p, some ps => some (p :: ps)
    | _, _ => none
end
mutual
theorem toP_dp {K : PySem.W.Frag} {ι : Lay} {H : Hp} {S : Sto} : ∀ (d : D) (v : V) (p : PyData), RelD K ι H d v → toP S d = some p → Dp K H v p
  | .non, v, p, r, h => by simp only [RelD, toP] at r h; cases h; subst r; exact .non
  | .bl b, v, p, r, h => by simp only [RelD, toP] at r h; cases h; subst r; exact .bl b
  | .int b, v, p, r, h => by simp only [RelD, toP] at r h; cases h; subst r; exact .int b
  | .str b, v, p, r, h => by simp only [RelD, toP] at r h; cases h; subst r; exact .str b
  | .tup ds, v, p, r, h => by
    simp only [RelD, toP] at r h
    obtain ⟨a, xs, rfl, q, r⟩ := r
    cases e : toPs S ds with
    | none => rw [e] at h; cases h
    | some ps =>
      rw [e] at h
      cases h
      exact .tup (sqT_of q) (toPs_dp ds xs ps r e)
  | .lst ds, v, p, r, h => by
    simp only [RelD, toP] at r h
    obtain ⟨a, xs, rfl, q, r⟩ := r
    cases e : toPs S ds with
    | none => rw [e] at h; cases h
    | some ps =>
      rw [e] at h
      cases h
      exact .lst (.of q.2) (toPs_dp ds xs ps r e)
  | .frz ds, v, p, r, h => by
    simp only [RelD, toP] at r h
    obtain ⟨a, xs, rfl, q, r⟩ := r
    cases e : toPs S ds with
    | none => rw [e] at h; cases h
    | some ps =>
      rw [e] at h
      cases h
      exact .lst (sqL_of q) (toPs_dp ds xs ps r e)
  | .ty n, v, p, r, h => by simp only [toP] at h; cases h
  | .ref n, v, p, r, h => by simp only [toP] at h; cases h
  | .dct ks ds, v, p, r, h => by simp only [toP] at h; cases h
  | .loc n, v, p, r, h => by simp only [toP] at h; cases h
theorem toPs_dp {K : PySem.W.Frag} {ι : Lay} {H : Hp} {S : Sto} : ∀ (ds : List D) (xs : List V) (ps : List PyData), RelDs K ι H ds xs → toPs S ds = some ps → DpAll K H xs ps
  | [], xs, ps, r, h => by simp only [RelDs, toPs] at r h; cases h; subst r; exact .nil
  | d :: ds, xs, ps, r, h => by
    simp only [RelDs, toPs] at r h
    obtain ⟨x, t, rfl, r1, r2⟩ := r
    cases e1 : toP S d with
    | none => rw [e1] at h; cases h
    | some p =>
      cases e2 : toPs S ds with
      | none => rw [e1, e2] at h; cases h
      | some qs =>
        rw [e1, e2] at h
        cases h
        exact .cons (toP_dp d x p r1 e1) (toPs_dp ds t qs r2 e2)
end
/-- a list of the store at the top -/
def toPL (S : Sto) (d : D) : Option PyData := match d with
  | .loc n => match S[n]? with
    | some (.lst ds) => (toPs S ds).map .list
    | none => none
  | d => toP S d
theorem toPL_dp {K : PySem.W.Frag} {ι : Lay} {H : Hp} {S : Sto} {d : D} {v : V} {p : PyData} (hS : RelS K ι H S) (r : RelD K ι H d v) (h : toPL S d = some p) : Dp K H v p := by
  unfold toPL at h
  split at h
  · rename_i n
    split at h
    · rename_i ds e
      obtain ⟨a, o, e1, e2, xs, rfl, r2⟩ := hS.at_ n _ e
      simp only [RelD] at r
      obtain ⟨b, rfl, e3⟩ := r
      rw [e1] at e3
      cases e3
      cases e4 : toPs S ds with
      | none => rw [e4] at h; cases h
      | some ps =>
        rw [e4] at h
        cases h
        exact .lst (.of e2) (toPs_dp ds xs ps r2 e4)
    · cases h
  · exact toP_dp d v p r h
def gEq (f : Bool → Bool) : G2 := fun S d e => match toPL S d, toPL S e with
  | some p, some q => if (SeqAt.shaped p && SeqAt.shaped q) = true then some (.bl (f (PyData.eqv p q))) else none
  | _, _ => none
theorem og_eq (hu : X.A.units + 64 < cLine) : OpG X (compareOp .Eq) (gEq id) := by
  refine ⟨_, op_eqD hu, fun ι H S x y d e z Q hS rx ry hz k => ?_⟩
  unfold gEq at hz
  split at hz
  · rename_i p q h1 h2
    split at hz
    · rename_i h
      simp only [Bool.and_eq_true] at h
      cases hz
      exact ⟨p, q, toPL_dp hS rx h1, toPL_dp hS ry h2, h.1, h.2, k H _ Ext.refl hS (relD_bl _)⟩
    · cases hz
  · cases hz
theorem og_ne (hu : X.A.units + 64 < cLine) : OpG X (compareOp .NotEq) (gEq not) := by
  refine ⟨_, op_neD hu, fun ι H S x y d e z Q hS rx ry hz k => ?_⟩
  unfold gEq at hz
  split at hz
  · rename_i p q h1 h2
    split at hz
    · rename_i h
      simp only [Bool.and_eq_true] at h
      cases hz
      exact ⟨p, q, toPL_dp hS rx h1, toPL_dp hS ry h2, h.1, h.2, k H _ Ext.refl hS (relD_bl _)⟩
    · cases hz
  · cases hz
/-- is None; is, of bools -/
def isNon : D → Bool
  | .non => true
  | _ => false
theorem relD_isN {K : PySem.W.Frag} {ι : Lay} {H : Hp} {d : D} {v : V} (r : RelD K ι H d v) : decide (v = .non) = isNon d := by
  cases d <;> simp only [RelD] at r
  case non => subst r; rfl
  case bl => subst r; rfl
  case int => subst r; rfl
  case str => subst r; rfl
  case ty => subst r; rfl
  case ref => subst r; rfl
  case tup => obtain ⟨a, xs, rfl, _⟩ := r; rfl
  case lst => obtain ⟨a, xs, rfl, _⟩ := r; rfl
  case frz => obtain ⟨a, xs, rfl, _⟩ := r; rfl
  case dct => obtain ⟨a, xs, rfl, _⟩ := r; rfl
  case loc => obtain ⟨a, rfl, _⟩ := r; rfl
def gIsN (f : Bool → Bool) : G2 := fun _ d e => if isNon e = true then some (.bl (f (isNon d))) else none
def gIsB (f : Bool → Bool) : G2 := fun _ d e => match d, e with
  | .bl a, .bl b => some (.bl (f (decide (a = b))))
  | _, _ => none
theorem isNon_eq {d : D} (h : isNon d = true) : d = .non := by cases d <;> first | rfl | cases h
theorem og_isN : OpG X (compareOp .Is) (gIsN id) := by
  refine ⟨_, op_isN, fun ι H S x y d e z Q hS rx ry hz k => ?_⟩
  unfold gIsN at hz
  split at hz
  · rename_i h
    cases isNon_eq h
    cases hz
    simp only [RelD] at ry
    subst ry
    exact ⟨rfl, k H _ Ext.refl hS (by rw [relD_isN rx]; exact relD_bl _)⟩
  · cases hz
theorem og_notN : OpG X (compareOp .IsNot) (gIsN not) := by
  refine ⟨_, op_notN, fun ι H S x y d e z Q hS rx ry hz k => ?_⟩
  unfold gIsN at hz
  split at hz
  · rename_i h
    cases isNon_eq h
    cases hz
    simp only [RelD] at ry
    subst ry
    exact ⟨rfl, k H _ Ext.refl hS (by rw [relD_isN rx]; exact relD_bl _)⟩
  · cases hz
theorem og_isB : OpG X (compareOp .Is) (gIsB id) := by
  refine ⟨_, op_isBl, fun ι H S x y d e z Q hS rx ry hz k => ?_⟩
  unfold gIsB at hz
  split at hz
  · rename_i a b
    simp only [RelD] at rx ry
    subst rx ry
    cases hz
    exact ⟨a, b, rfl, rfl, k H _ Ext.refl hS (relD_bl _)⟩
  · cases hz
theorem og_notB : OpG X (compareOp .IsNot) (gIsB not) := by
  refine ⟨_, op_notBl, fun ι H S x y d e z Q hS rx ry hz k => ?_⟩
  unfold gIsB at hz
  split at hz
  · rename_i a b
    simp only [RelD] at rx ry
    subst rx ry
    cases hz
    exact ⟨a, b, rfl, rfl, k H _ Ext.refl hS (relD_bl _)⟩
  · cases hz
/-- in, not in: a list of data of any depth; a tuple of flat things -/
def gInL (f : Bool → Bool) : G2 := fun S d e => match toPL S d, toPL S e with
  | some p, some (.list qs) => if (SeqAt.shaped p && SeqAt.shaped (.list qs)) = true then some (.bl (f (qs.any fun z => PyData.eqv z p))) else none
  | _, _ => none
theorem og_inL (hu : X.A.units + 65 < cLine) : OpG X (compareOp .In) (gInL id) := by
  refine ⟨_, op_inD hu, fun ι H S x y d e z Q hS rx ry hz k => ?_⟩
  unfold gInL at hz
  split at hz
  · rename_i p q h1 h2
    split at hz
    · rename_i h
      simp only [Bool.and_eq_true] at h
      cases hz
      exact ⟨p, q, toPL_dp hS rx h1, toPL_dp hS ry h2, h.1, h.2, k H _ Ext.refl hS (relD_bl _)⟩
    · cases hz
  · cases hz
theorem og_notInL (hu : X.A.units + 65 < cLine) : OpG X (compareOp .NotIn) (gInL not) := by
  refine ⟨_, op_notInD hu, fun ι H S x y d e z Q hS rx ry hz k => ?_⟩
  unfold gInL at hz
  split at hz
  · rename_i p q h1 h2
    split at hz
    · rename_i h
      simp only [Bool.and_eq_true] at h
      cases hz
      exact ⟨p, q, toPL_dp hS rx h1, toPL_dp hS ry h2, h.1, h.2, k H _ Ext.refl hS (relD_bl _)⟩
    · cases hz
  · cases hz
/-- flat data, as a V without the heap -/
def flatD : D → Option V
  | .non => some .non
  | .bl b => some (.bl b)
  | .int i => some (.int i)
  | .str x => some (.str x)
  | _ => none
theorem flatD_ok {K : PySem.W.Frag} {ι : Lay} {H : Hp} {d : D} {v w : V} (r : RelD K ι H d v) (h : flatD d = some w) : v = w ∧ flatV w = true := by
  cases d <;> simp only [flatD] at h <;> cases h <;> simp only [RelD] at r <;> subst r <;> exact ⟨rfl, rfl⟩
def flatDs : List D → Option (List V)
  | [] => some []
  | d :: ds => match flatD d, flatDs ds with
    | some v, some vs => some (v :: vs)
    | _, _ => none
theorem flatDs_ok {K : PySem.W.Frag} {ι : Lay} {H : Hp} : ∀ {ds : List D} {xs ys : List V}, RelDs K ι H ds xs → flatDs ds = some ys → xs = ys ∧ ys.all flatV = true
  | [], xs, ys, r, h => by simp only [RelDs, flatDs] at r h; cases h; subst r; exact ⟨rfl, rfl⟩
  | d :: ds, xs, ys, r, h => by
    simp only [RelDs, flatDs] at r h
    obtain ⟨x, t, rfl, r1, r2⟩ := r
    cases e1 : flatD d with
    | none => rw [e1] at h; cases h
    | some v =>
      cases e2 : flatDs ds with
      | none => rw [e1, e2] at h; cases h
      | some vs =>
        rw [e1, e2] at h
        cases h
        obtain ⟨rfl, f1⟩ := flatD_ok r1 e1
        obtain ⟨rfl, f2⟩ := flatDs_ok r2 e2
        exact ⟨rfl, by rw [List.all_cons, f1, f2]; rfl⟩
def gInT (f : Bool → Bool) : G2 := fun _ d e => match flatD d, (itemsT e).bind flatDs with
  | some v, some vs => some (.bl (f (inV v vs)))
  | _, _ => none
theorem og_inT : OpG X (compareOp .In) (gInT id) := by
  refine ⟨_, op_in_seq, fun ι H S x y d e z Q hS rx ry hz k => ?_⟩
  unfold gInT at hz
  split at hz
  · rename_i v vs h1 h2
    cases hz
    obtain ⟨rfl, f1⟩ := flatD_ok rx h1
    cases h3 : itemsT e with
    | none => rw [h3] at h2; cases h2
    | some es =>
      rw [h3] at h2
      obtain ⟨a, xs, rfl, q, r⟩ := itemsT_ok ry h3
      obtain ⟨rfl, f2⟩ := flatDs_ok r h2
      exact ⟨a, xs, rfl, .inr q, f1, f2, k H _ Ext.refl hS (relD_bl _)⟩
  · cases hz
theorem og_notInT : OpG X (compareOp .NotIn) (gInT not) := by
  refine ⟨_, op_notIn_seq, fun ι H S x y d e z Q hS rx ry hz k => ?_⟩
  unfold gInT at hz
  split at hz
  · rename_i v vs h1 h2
    cases hz
    obtain ⟨rfl, f1⟩ := flatD_ok rx h1
    cases h3 : itemsT e with
    | none => rw [h3] at h2; cases h2
    | some es =>
      rw [h3] at h2
      obtain ⟨a, xs, rfl, q, r⟩ := itemsT_ok ry h3
      obtain ⟨rfl, f2⟩ := flatDs_ok r h2
      exact ⟨a, xs, rfl, .inr q, f1, f2, k H _ Ext.refl hS (relD_bl _)⟩
  · cases hz
/-! ### unary -/
def eNeg (a : FE) : FE := fun ρ S => (a ρ S).bind fun d S1 => match d with
  | .int i => .ok (.int (-i)) S1
  | _ => .stuck
theorem se_neg {a : Expr} {pos : Pos} {fa : FE} (ha : PE X a (RE X.K W fa)) : PE X (.UnaryOp .USub a pos) (RE X.K W (eNeg fa)) := by
  refine PE.weak (pe_un un_neg ha) fun σ H Q ⟨ι, ρ, S, hS, hE, hp⟩ => ?_
  refine ⟨ι, ρ, S, hS, hE, (Post.bind hp).imp fun ι1 H1 d S1 e1 s1 p1 x rx => ?_⟩
  split at p1
  · simp only [RelD] at rx
    subst rx
    exact ⟨_, rfl, p1.ok s1 _ (relD_int _)⟩
  · exact p1.elim
end
end EV

namespace EV
open PySem L2 PySem.Spec PyProof.Rows
/-! ### truth -/
def truD (S : Sto) : D → Option Bool
  | .non => some false
  | .bl b => some b
  | .int i => some (i != 0)
  | .str x => if sz x.length = true then some ((x.length : Int) != 0) else none
  | .tup ds => some (!ds.isEmpty)
  | .lst ds => some (!ds.isEmpty)
  | .frz ds => some (!ds.isEmpty)
  | .loc n => match S[n]? with
    | some (.lst ds) => some (!ds.isEmpty)
    | none => none
  | .dct ks ds => if ks.length = ds.length then some (!ks.isEmpty) else none
  | _ => none
theorem emp_of {α β : Type} {xs : List α} {ds : List β} (h : xs.length = ds.length) : (!ds.isEmpty) = (!xs.isEmpty) := by
  cases xs <;> cases ds <;> first | rfl | simp at h
theorem truD_ok {K : PySem.W.Frag} {ι : Lay} {H : Hp} {S : Sto} {d : D} {v : V} {b : Bool} (hS : RelS K ι H S) (r : RelD K ι H d v) (h : truD S d = some b) : TruV K v H b := by
  cases d <;> simp only [truD] at h <;> simp only [RelD] at r
  case non => cases h; subst r; rfl
  case bl => cases h; subst r; rfl
  case int => cases h; subst r; rfl
  case str x =>
    subst r
    split at h
    · rename_i hz
      cases h
      exact ⟨sz_ok hz, rfl⟩
    · cases h
  case ty => cases h
  case ref => cases h
  case tup ds =>
    cases h
    obtain ⟨a, xs, rfl, q, r⟩ := r
    exact .inr (.inl ⟨xs, sqT_of q, emp_of r.length⟩)
  case lst ds =>
    cases h
    obtain ⟨a, xs, rfl, q, r⟩ := r
    exact .inl ⟨xs, .of q.2, emp_of r.length⟩
  case frz ds =>
    cases h
    obtain ⟨a, xs, rfl, q, r⟩ := r
    exact .inl ⟨xs, sqL_of q, emp_of r.length⟩
  case loc n =>
    split at h
    · rename_i ds e
      cases h
      obtain ⟨a, o, e1, e2, xs, rfl, r2⟩ := hS.at_ n _ e
      obtain ⟨b, rfl, e3⟩ := r
      rw [e1] at e3
      cases e3
      exact .inl ⟨xs, .of e2, emp_of r2.length⟩
    · cases h
  case dct ks ds =>
    split at h
    · rename_i hl
      cases h
      obtain ⟨a, xs, rfl, q, r⟩ := r
      refine .inr (.inr ⟨ks.zip xs, q.2.1, ?_⟩)
      have hz : (ks.zip xs).length = ks.length := by rw [List.length_zip, q.2.2, Nat.min_self]
      exact emp_of hz
    · cases h
section
variable {X : Cx} {W : WX}
/-! ### tests -/
def tVal (a : FE) : FT := fun ρ S => (a ρ S).bind fun d S1 => ofOpt (truD S1 d) S1
def tNotF (a : FT) : FT := fun ρ S => (a ρ S).bind fun b S1 => .ok (!b) S1
def tAndF (a b : FT) : FT := fun ρ S => (a ρ S).bind fun x S1 => if x = true then b ρ S1 else .ok false S1
def tOrF (a b : FT) : FT := fun ρ S => (a ρ S).bind fun x S1 => if x = true then .ok true S1 else b ρ S1
def tBl (a : FE) : FT := fun ρ S => (a ρ S).bind fun d S1 => match d with
  | .bl b => .ok b S1
  | _ => .stuck
theorem st_truth {a : Expr} {fa : FE} (ha : PE X a (RE X.K W fa)) (he : ∀ whole, isTrue a X.env whole = (do let v ← whole; standAt a.pos; holding [v] (truthy v))) : PT X a (RT X.K W (tVal fa)) := by
  refine PT.weak (pt_truth ha he) fun σ H Q ⟨ι, ρ, S, hS, hE, hp⟩ => ?_
  refine ⟨ι, ρ, S, hS, hE, (Post.bind hp).imp fun ι1 H1 d S1 e1 s1 p1 x rx => ?_⟩
  cases h : truD S1 d with
  | none => rw [h] at p1; exact p1.elim
  | some b =>
    rw [h] at p1
    exact ⟨b, truD_ok s1 rx h, p1.ok s1⟩
theorem st_cmp {op : CmpOp} {a b : Expr} {pos : Pos} {g : G2} {fa fb : FE} (hg : OpG X (compareOp op) g) (ha : PE X a (RE X.K W fa)) (hb : PE X b (RE X.K W fb)) (hm : behindInMarks op b = false) : PT X (.Compare a [op] [b] pos) (RT X.K W (tBl (eBin g fa fb))) := by
  obtain ⟨r, ho, hr⟩ := hg
  refine PT.weak (pt_cmpR ho ha hb hm) fun σ H Q ⟨ι, ρ, S, hS, hE, hp⟩ => ?_
  refine bin_weak (W := W) (f := compareOp op) hr σ H _ ⟨ι, ρ, S, hS, hE, (Post.bind hp).imp fun ι1 H1 d S1 e1 s1 p1 x rx => ?_⟩
  split at p1
  · simp only [RelD] at rx
    subst rx
    exact ⟨_, rfl, p1.ok s1⟩
  · exact p1.elim
theorem st_not {a : Expr} {pos : Pos} {fa : FT} (ha : PT X a (RT X.K W fa)) : PT X (.UnaryOp .Not a pos) (RT X.K W (tNotF fa)) :=
  PT.weak (pt_not ha) fun σ H Q ⟨ι, ρ, S, hS, hE, hp⟩ => ⟨ι, ρ, S, hS, hE, (Post.bind hp).imp fun ι1 H1 d S1 e1 s1 p1 => p1.ok s1⟩
theorem sw_and1 {a : Expr} {pos : Pos} {fa : FT} (ha : PT X a (RT X.K W fa)) : PW X (.BoolOp .And [a] pos) (RT X.K W fa) := pw_and1 ha
theorem sw_or1 {a : Expr} {pos : Pos} {fa : FT} (ha : PT X a (RT X.K W fa)) : PW X (.BoolOp .Or [a] pos) (RT X.K W fa) := pw_or1 ha
theorem sw_and {a b : Expr} {rest : List Expr} {pos : Pos} {fa fb : FT} (ha : PT X a (RT X.K W fa)) (hb : PW X (.BoolOp .And (b :: rest) pos) (RT X.K W fb)) : PW X (.BoolOp .And (a :: b :: rest) pos) (RT X.K W (tAndF fa fb)) := by
  refine PW.weak (pw_and ha hb) fun σ H Q ⟨ι, ρ, S, hS, hE, hp⟩ => ⟨ι, ρ, S, hS, hE, (Post.bind hp).imp fun ι1 H1 d S1 e1 s1 p1 => ?_⟩
  cases d with
  | true => exact ⟨ι1, ρ, S1, s1, hE.mono e1, p1⟩
  | false => exact p1.ok s1
theorem sw_or {a b : Expr} {rest : List Expr} {pos : Pos} {fa fb : FT} (ha : PT X a (RT X.K W fa)) (hb : PW X (.BoolOp .Or (b :: rest) pos) (RT X.K W fb)) : PW X (.BoolOp .Or (a :: b :: rest) pos) (RT X.K W (tOrF fa fb)) := by
  refine PW.weak (pw_or ha hb) fun σ H Q ⟨ι, ρ, S, hS, hE, hp⟩ => ⟨ι, ρ, S, hS, hE, (Post.bind hp).imp fun ι1 H1 d S1 e1 s1 p1 => ?_⟩
  cases d with
  | true => exact p1.ok s1
  | false => exact ⟨ι1, ρ, S1, s1, hE.mono e1, p1⟩
/-! ### values by truth -/
def eAndF (a b : FE) : FE := fun ρ S => (a ρ S).bind fun d S1 => (ofOpt (truD S1 d) S1).bind fun k S2 => if k = true then b ρ S2 else .ok d S2
def eOrF (a b : FE) : FE := fun ρ S => (a ρ S).bind fun d S1 => (ofOpt (truD S1 d) S1).bind fun k S2 => if k = true then .ok d S2 else b ρ S2
def eNotF (a : FE) : FE := fun ρ S => (a ρ S).bind fun d S1 => (ofOpt (truD S1 d) S1).bind fun k S2 => .ok (.bl (!k)) S2
def eIfF (t : FT) (a b : FE) : FE := fun ρ S => (t ρ S).bind fun k S1 => if k = true then a ρ S1 else b ρ S1
theorem se_andT {a b : Expr} {rest : List Expr} {pos : Pos} {fa fb : FE} (ha : PE X a (RE X.K W fa)) (hb : PE X (.BoolOp .And (b :: rest) pos) (RE X.K W fb)) : PE X (.BoolOp .And (a :: b :: rest) pos) (RE X.K W (eAndF fa fb)) := by
  refine PE.weak (pe_andT ha hb) fun σ H Q ⟨ι, ρ, S, hS, hE, hp⟩ => ⟨ι, ρ, S, hS, hE, (Post.bind hp).imp fun ι1 H1 d S1 e1 s1 p1 x rx => ?_⟩
  cases h : truD S1 d with
  | none => rw [h] at p1; exact p1.elim
  | some b =>
    rw [h] at p1
    refine ⟨b, truD_ok s1 rx h, ?_⟩
    cases b with
    | true => exact ⟨ι1, ρ, S1, s1, hE.mono e1, p1⟩
    | false => exact p1.ok s1 x rx
theorem se_orT {a b : Expr} {rest : List Expr} {pos : Pos} {fa fb : FE} (ha : PE X a (RE X.K W fa)) (hb : PE X (.BoolOp .Or (b :: rest) pos) (RE X.K W fb)) : PE X (.BoolOp .Or (a :: b :: rest) pos) (RE X.K W (eOrF fa fb)) := by
  refine PE.weak (pe_orT ha hb) fun σ H Q ⟨ι, ρ, S, hS, hE, hp⟩ => ⟨ι, ρ, S, hS, hE, (Post.bind hp).imp fun ι1 H1 d S1 e1 s1 p1 x rx => ?_⟩
  cases h : truD S1 d with
  | none => rw [h] at p1; exact p1.elim
  | some b =>
    rw [h] at p1
    refine ⟨b, truD_ok s1 rx h, ?_⟩
    cases b with
    | true => exact p1.ok s1 x rx
    | false => exact ⟨ι1, ρ, S1, s1, hE.mono e1, p1⟩
theorem se_notT {a : Expr} {pos : Pos} {fa : FE} (ha : PE X a (RE X.K W fa)) : PE X (.UnaryOp .Not a pos) (RE X.K W (eNotF fa)) := by
  refine PE.weak (pe_notT ha) fun σ H Q ⟨ι, ρ, S, hS, hE, hp⟩ => ⟨ι, ρ, S, hS, hE, (Post.bind hp).imp fun ι1 H1 d S1 e1 s1 p1 x rx => ?_⟩
  cases h : truD S1 d with
  | none => rw [h] at p1; exact p1.elim
  | some b =>
    rw [h] at p1
    exact ⟨b, truD_ok s1 rx h, p1.ok s1 _ (relD_bl _)⟩
theorem se_ifExp {c a b : Expr} {pos : Pos} {fc : FT} {fa fb : FE} (hc : PT X c (RT X.K W fc)) (ha : PE X a (RE X.K W fa)) (hb : PE X b (RE X.K W fb)) : PE X (.IfExp c a b pos) (RE X.K W (eIfF fc fa fb)) := by
  refine PE.weak (pe_ifExp hc ha hb) fun σ H Q ⟨ι, ρ, S, hS, hE, hp⟩ => ⟨ι, ρ, S, hS, hE, (Post.bind hp).imp fun ι1 H1 d S1 e1 s1 p1 => ?_⟩
  cases d with
  | true => exact ⟨ι1, ρ, S1, s1, hE.mono e1, p1⟩
  | false => exact ⟨ι1, ρ, S1, s1, hE.mono e1, p1⟩
/-- a < b < c -/
def eChain (g g' : G2) (a b c : FE) : FE := fun ρ S => (a ρ S).bind fun x S1 => (b ρ S1).bind fun y S2 => (ofOpt (g S2 x y) S2).bind fun z S3 => match z with
  | .bl k => if k = true then (c ρ S3).bind fun w S4 => ofOpt (g' S4 y w) S4 else .ok (.bl false) S3
  | _ => .stuck
theorem chain_weak {g g' : G2} {r r' : R2} {fa fb fc : FE} (hr : ∀ (ι : Lay) (H : Hp) (S : Sto) (x y : V) (d e z : D) (Q : VK), RelS X.K ι H S → RelD X.K ι H d x → RelD X.K ι H e y → g S d e = some z →
    (∀ H' v, Ext ι H ι H' → RelS X.K ι H' S → RelD X.K ι H' z v → Q v H') → r x y H Q) (hr' : ∀ (ι : Lay) (H : Hp) (S : Sto) (x y : V) (d e z : D) (Q : VK), RelS X.K ι H S → RelD X.K ι H d x → RelD X.K ι H e y → g' S d e = some z →
    (∀ H' v, Ext ι H ι H' → RelS X.K ι H' S → RelD X.K ι H' z v → Q v H') → r' x y H Q) (σ : L2.St) (H : Hp) (Q : VK) (h : RE X.K W (eChain g g' fa fb fc) σ H Q) : tChain r r' (RE X.K W fa) (RE X.K W fb) (RE X.K W fc) σ H Q := by
  obtain ⟨ι, ρ, S, hS, hE, hp⟩ := h
  refine ⟨ι, ρ, S, hS, hE, (Post.bind hp).imp fun ι1 H1 d S1 e1 s1 p1 x rx => ?_⟩
  refine ⟨ι1, ρ, S1, s1, hE.mono e1, (Post.bind p1).imp fun ι2 H2 d2 S2 e2 s2 p2 y ry => ?_⟩
  cases hg : g S2 d d2 with
  | none => rw [hg] at p2; exact p2.elim
  | some z =>
    rw [hg] at p2
    refine hr ι2 H2 S2 x y d d2 z _ s2 (rx.mono e2) ry hg fun H' v e' s' rz => ?_
    have p3 := p2.mono e'
    simp only [ofOpt_some, bind_ok] at p3
    cases z with
    | bl k =>
      simp only [RelD] at rz
      subst rz
      refine ⟨k, rfl, ?_⟩
      cases k with
      | true =>
        simp only [if_true] at p3 ⊢
        refine ⟨ι2, ρ, S2, s', (hE.mono (e1.trans e2)).mono e', (Post.bind p3).imp fun ι4 H4 d4 S4 e4 s4 p4 w' rw' => ?_⟩
        cases hg' : g' S4 d2 d4 with
        | none => rw [hg'] at p4; exact p4.elim
        | some z4 =>
          rw [hg'] at p4
          exact hr' ι4 H4 S4 y w' d2 d4 z4 Q s4 ((ry.mono e').mono e4) rw' hg' fun H5 v5 e5 s5 r5 => p4 ι4 H5 e5 s5 v5 r5
      | false =>
        simp only [Bool.false_eq_true, if_false] at p3 ⊢
        exact p3.ok s' _ (relD_bl _)
    | _ => exact p3.elim
theorem se_chain {op op' : CmpOp} {a b c : Expr} {pos : Pos} {g g' : G2} {fa fb fc : FE} (hg : OpG X (compareOp op) g) (hg' : OpG X (compareOp op') g') (ha : PE X a (RE X.K W fa)) (hb : PE X b (RE X.K W fb)) (hc : PE X c (RE X.K W fc))
    (hm : behindInMarks op' c = false) : PE X (.Compare a [op, op'] [b, c] pos) (RE X.K W (eChain g g' fa fb fc)) := by
  obtain ⟨r, ho, hr⟩ := hg
  obtain ⟨r', ho', hr'⟩ := hg'
  exact PE.weak (pe_chain ho ho' ha hb hc (by first | exact hm | (unfold lastMarks; exact hm))) (chain_weak hr hr')
theorem st_chain {op op' : CmpOp} {a b c : Expr} {pos : Pos} {g g' : G2} {fa fb fc : FE} (hg : OpG X (compareOp op) g) (hg' : OpG X (compareOp op') g') (ha : PE X a (RE X.K W fa)) (hb : PE X b (RE X.K W fb)) (hc : PE X c (RE X.K W fc))
    (hm : behindInMarks op' c = false) : PT X (.Compare a [op, op'] [b, c] pos) (RT X.K W (tBl (eChain g g' fa fb fc))) := by
  obtain ⟨r, ho, hr⟩ := hg
  obtain ⟨r', ho', hr'⟩ := hg'
  refine PT.weak (pt_chain ho ho' ha hb hc (by first | exact hm | (unfold lastMarks; exact hm))) fun σ H Q ⟨ι, ρ, S, hS, hE, hp⟩ => ?_
  refine chain_weak (W := W) hr hr' σ H _ ⟨ι, ρ, S, hS, hE, (Post.bind hp).imp fun ι1 H1 d S1 e1 s1 p1 x rx => ?_⟩
  split at p1
  · simp only [RelD] at rx
    subst rx
    exact ⟨_, rfl, p1.ok s1⟩
  · exact p1.elim
/-! ### arguments, displays -/
def aNil : FA := fun _ S => .ok [] S
def aCons (a : FE) (r : FA) : FA := fun ρ S => (a ρ S).bind fun d S1 => (r ρ S1).bind fun ds S2 => .ok (d :: ds) S2
/-- the items of what is starred -/
def itemsS (S : Sto) (d : D) : Option (List D) := match itemsT d with
  | some ds => some ds
  | none => itemsR S d
def aStar (a : FE) (r : FA) : FA := fun ρ S => (a ρ S).bind fun d S1 => (ofOpt (itemsS S1 d) S1).bind fun es S2 => (r ρ S2).bind fun ds S3 => .ok (es ++ ds) S3
theorem itemsS_ok {K : PySem.W.Frag} {ι : Lay} {H : Hp} {S : Sto} {d : D} {v : V} {ds : List D} (hS : RelS K ι H S) (r : RelD K ι H d v) (h : itemsS S d = some ds) : ∃ a xs, v = .ref a ∧ (SqT K H a xs ∨ SqL K H a xs) ∧ RelDs K ι H ds xs := by
  unfold itemsS at h
  split at h
  · rename_i ds' e
    cases h
    obtain ⟨a, xs, rfl, q, r⟩ := itemsT_ok r e
    exact ⟨a, xs, rfl, .inl q, r⟩
  · obtain ⟨a, xs, rfl, q, r⟩ := itemsR_ok hS r h
    exact ⟨a, xs, rfl, .inr q, r⟩
theorem sa_nil : PA X [] (RA X.K W aNil) := PA.weak pa_nil fun σ H Q ⟨ι, ρ, S, hS, hE, hp⟩ => hp.ok hS [] RelDs.nil
theorem sa_cons {e : Expr} {es : List Expr} {fa : FE} {fr : FA} (ha : PE X e (RE X.K W fa)) (hr : PA X es (RA X.K W fr)) (hs : starEach (e :: es) X.env = (false, eval e X.env) :: starEach es X.env) : PA X (e :: es) (RA X.K W (aCons fa fr)) := by
  refine PA.weak (pa_cons ha hr hs) fun σ H Q ⟨ι, ρ, S, hS, hE, hp⟩ => ⟨ι, ρ, S, hS, hE, (Post.bind hp).imp fun ι1 H1 d S1 e1 s1 p1 x rx => ?_⟩
  exact ⟨ι1, ρ, S1, s1, hE.mono e1, (Post.bind p1).imp fun ι2 H2 ds S2 e2 s2 p2 xs rxs => p2.ok s2 (x :: xs) (.cons (rx.mono e2) rxs)⟩
theorem sa_star {e : Expr} {p : Pos} {es : List Expr} {fa : FE} {fr : FA} (ha : PE X e (RE X.K W fa)) (hr : PA X es (RA X.K W fr)) (hs : starEach (.Starred e p :: es) X.env = (true, eval e X.env) :: starEach es X.env) : PA X (.Starred e p :: es) (RA X.K W (aStar fa fr)) := by
  refine PA.weak (StX.pa_star ha hr hs) fun σ H Q ⟨ι, ρ, S, hS, hE, hp⟩ => ⟨ι, ρ, S, hS, hE, (Post.bind hp).imp fun ι1 H1 d S1 e1 s1 p1 x rx => ?_⟩
  cases h : itemsS S1 d with
  | none => rw [h] at p1; exact p1.elim
  | some es' =>
    rw [h] at p1
    simp only [ofOpt_some, bind_ok] at p1
    obtain ⟨a, xs, rfl, q, r⟩ := itemsS_ok s1 rx h
    exact ⟨a, xs, rfl, q, ι1, ρ, S1, s1, hE.mono e1, (Post.bind p1).imp fun ι2 H2 ds S2 e2 s2 p2 ys rys => p2.ok s2 (xs ++ ys) ((r.mono e2).append rys)⟩
def eTup (a : FA) : FE := fun ρ S => (a ρ S).bind fun ds S1 => if sz ds.length = true then .ok (.tup ds) S1 else .stuck
def eLst (a : FA) : FE := fun ρ S => (a ρ S).bind fun ds S1 => if sz ds.length = true then .ok (.lst ds) S1 else .stuck
/-- a list that will be changed: into the store -/
def eLoc (a : FA) : FE := fun ρ S => (a ρ S).bind fun ds S1 => if sz ds.length = true then .ok (.loc S1.length) (S1 ++ [.lst ds]) else .stuck
theorem se_tup {es : List Expr} {k : Nat} {pos : Pos} {fa : FA} (ha : PA X es (RA X.K W fa)) : PE X (.Tuple es k pos) (RE X.K W (eTup fa)) := by
  refine PE.weak (pe_tup ha) fun σ H Q ⟨ι, ρ, S, hS, hE, hp⟩ => ⟨ι, ρ, S, hS, hE, (Post.bind hp).imp fun ι1 H1 ds S1 e1 s1 p1 xs rx => ?_⟩
  split at p1
  · rename_i h
    exact ⟨by rw [rx.length]; exact sz_ok h, fun p hp => new_tup s1 rx (fun H' v e' s' r' => p1 ι1 H' e' s' v r') p hp⟩
  · exact p1.elim
theorem se_lst {es : List Expr} {pos : Pos} {fa : FA} (ha : PA X es (RA X.K W fa)) : PE X (.List es pos) (RE X.K W (eLst fa)) := by
  refine PE.weak (pe_lst ha) fun σ H Q ⟨ι, ρ, S, hS, hE, hp⟩ => ⟨ι, ρ, S, hS, hE, (Post.bind hp).imp fun ι1 H1 ds S1 e1 s1 p1 xs rx => ?_⟩
  split at p1
  · rename_i h
    exact ⟨by rw [rx.length]; exact sz_ok h, fun p hp => new_lst s1 rx (fun H' v e' s' r' => p1 ι1 H' e' s' v r') p hp⟩
  · exact p1.elim
/-- a new list into the store -/
theorem new_loc {K : PySem.W.Frag} {ι : Lay} {H : Hp} {S : Sto} {ds : List D} {xs : List V} {Q : VK} (hS : RelS K ι H S) (r : RelDs K ι H ds xs) (k : ∀ ι' H' v, Ext ι H ι' H' → RelS K ι' H' (S ++ [.lst ds]) → RelD K ι' H' (.loc S.length) v → Q v H') (p : Addr) (hp : H p = none) : Q (.ref p) (upd H p (.lst xs)) :=
  k (ι.add p) _ _ (ext_alloc hS hp) (hS.alloc hp ⟨xs, rfl, r⟩) (by simp only [RelD]; exact ⟨p, rfl, by rw [← hS.len]; simp [Lay.add]⟩)
theorem se_loc {es : List Expr} {pos : Pos} {fa : FA} (ha : PA X es (RA X.K W fa)) : PE X (.List es pos) (RE X.K W (eLoc fa)) := by
  refine PE.weak (pe_lst ha) fun σ H Q ⟨ι, ρ, S, hS, hE, hp⟩ => ⟨ι, ρ, S, hS, hE, (Post.bind hp).imp fun ι1 H1 ds S1 e1 s1 p1 xs rx => ?_⟩
  split at p1
  · rename_i h
    exact ⟨by rw [rx.length]; exact sz_ok h, fun p hp => new_loc s1 rx (fun ι' H' v e' s' r' => p1 ι' H' e' s' v r') p hp⟩
  · exact p1.elim
/-! ### subscripts -/
def gIx : G2 := fun S d e => match e with
  | .int i => match itemsS S d with
    | some ds => atI ds i
    | none => match d with
      | .str z => if sz z.length = true then (atI z.cps.toList i).map fun c => .str ⟨#[c]⟩ else none
      | _ => none
  | _ => none
theorem RelDs.atI {K : PySem.W.Frag} {ι : Lay} {H : Hp} {ds : List D} {xs : List V} {i : Int} {d : D} (r : RelDs K ι H ds xs) (h : L2.atI ds i = some d) : ∃ x, L2.atI xs i = some x ∧ RelD K ι H d x := by
  unfold L2.atI at h ⊢
  rw [r.length]
  cases e : ixN ds.length i with
  | none => rw [e] at h; cases h
  | some j =>
    rw [e] at h
    exact r.get (i := j) h
theorem se_ix {a b : Expr} {pos : Pos} {fa fb : FE} (ha : PE X a (RE X.K W fa)) (hb : PE X b (RE X.K W fb)) (hs : PlainIx b) : PE X (.Subscript a b pos) (RE X.K W (eBin gIx fa fb)) := by
  refine PE.weak (pe_ix ix_seq ha hb hs) (bin_weak (f := fun _ _ => getItem .none .none) fun ι H S x y d e z Q hS rx ry hz k => ?_)
  unfold gIx at hz
  split at hz
  · rename_i i
    simp only [RelD] at ry
    subst ry
    split at hz
    · rename_i ds h
      obtain ⟨a, xs, rfl, q, r⟩ := itemsS_ok hS rx h
      obtain ⟨x, e1, r1⟩ := r.atI hz
      rcases q with q | q
      · exact .inr (.inl ⟨a, xs, i, x, rfl, rfl, q, e1, k H x Ext.refl hS r1⟩)
      · exact .inl ⟨a, xs, i, x, rfl, rfl, q, e1, k H x Ext.refl hS r1⟩
    · split at hz
      · rename_i z' _
        simp only [RelD] at rx
        subst rx
        split at hz
        · rename_i hz'
          cases e1 : L2.atI z'.cps.toList i with
          | none => rw [e1] at hz; cases hz
          | some c =>
            rw [e1] at hz
            cases hz
            exact .inr (.inr ⟨z', i, c, rfl, rfl, sz_ok hz', e1, k H _ Ext.refl hS (relD_str _)⟩)
        · cases hz
      · cases hz
  · cases hz
/-- slices -/
abbrev FO := Env → Sto → Res (Option Int)
def oNone : FO := fun _ S => .ok none S
def oSome (a : FE) : FO := fun ρ S => (a ρ S).bind fun d S1 => match d with
  | .int i => .ok (some i) S1
  | _ => .stuck
def RO (K : PySem.W.Frag) (W : WX) (f : FO) : TO := fun σ H Q => ∃ ι ρ S, RelS K ι H S ∧ RelE K ι H σ ρ ∧ Post K W σ ι H (f ρ S) fun ι' H' o _ => Q o H'
theorem PO.weak {e : Option Expr} {t t' : TO} (h : PO X e t) (w : ∀ σ H Q, t' σ H Q → t σ H Q) : PO X e t' := ⟨fun pins s σ H Q I q => h.run pins s σ H Q I (w σ H Q q)⟩
theorem so_none : PO X none (RO X.K W oNone) := PO.weak po_none fun σ H Q ⟨ι, ρ, S, hS, hE, hp⟩ => hp.ok hS
theorem so_some {e : Expr} {fa : FE} (ha : PE X e (RE X.K W fa)) : PO X (some e) (RO X.K W (oSome fa)) := by
  refine PO.weak (po_some ha) fun σ H Q ⟨ι, ρ, S, hS, hE, hp⟩ => ⟨ι, ρ, S, hS, hE, (Post.bind hp).imp fun ι1 H1 d S1 e1 s1 p1 x rx => ?_⟩
  split at p1
  · simp only [RelD] at rx
    subst rx
    exact ⟨_, rfl, p1.ok s1⟩
  · exact p1.elim
def cutD {α : Type} (xs : List α) (lo hi : Option Int) : List α := (xs.drop (HT.sIx xs.length 0 lo)).take (HT.sIx xs.length xs.length hi - HT.sIx xs.length 0 lo)
theorem RelDs.cut {K : PySem.W.Frag} {ι : Lay} {H : Hp} {ds : List D} {xs : List V} (r : RelDs K ι H ds xs) (lo hi : Option Int) : RelDs K ι H (cutD ds lo hi) (cutV xs lo hi) := by
  unfold cutD cutV
  rw [r.length]
  exact (r.drop _).take _
def eSlice (a : FE) (l h : FO) : FE := fun ρ S => (a ρ S).bind fun d S1 => (l ρ S1).bind fun lo S2 => (h ρ S2).bind fun hi S3 => match itemsT d with
  | some ds => .ok (.tup (cutD ds lo hi)) S3
  | none => match itemsR S3 d with
    | some ds => .ok (.lst (cutD ds lo hi)) S3
    | none => .stuck
theorem se_slice {a : Expr} {lo hi : Option Expr} {p2 pos : Pos} {fa : FE} {fl fh : FO} (ha : PE X a (RE X.K W fa)) (hl : PO X lo (RO X.K W fl)) (hh : PO X hi (RO X.K W fh)) : PE X (.Subscript a (.Slice lo hi none p2) pos) (RE X.K W (eSlice fa fl fh)) := by
  refine PE.weak (pe_slice (sl_tupA.or sl_list) ha hl hh) fun σ H Q ⟨ι, ρ, S, hS, hE, hp⟩ => ⟨ι, ρ, S, hS, hE, (Post.bind hp).imp fun ι1 H1 d S1 e1 s1 p1 x rx => ?_⟩
  refine ⟨ι1, ρ, S1, s1, hE.mono e1, (Post.bind p1).imp fun ι2 H2 l S2 e2 s2 p2 => ?_⟩
  refine ⟨ι2, ρ, S2, s2, hE.mono (e1.trans e2), (Post.bind p2).imp fun ι3 H3 u S3 e3 s3 p3 => ?_⟩
  have rx3 := (rx.mono e2).mono e3
  split at p3
  · rename_i ds h
    obtain ⟨b, xs, rfl, q, r⟩ := itemsT_ok rx3 h
    refine .inl ⟨b, xs, rfl, q, fun hw => ?_, fun _ p hp => new_tup s3 (r.cut l u) (fun H' v e' s' r' => p3 ι3 H' e' s' v r') p hp⟩
    refine p3.ok s3 _ ?_
    have hl := r.length
    have : cutD ds l u = ds := by
      unfold cutD
      rw [← hl, hw.1, hw.2]
      simp [hl]
    rw [this]
    unfold itemsT at h
    split at h
    · cases h; exact rx3
    · cases h
  · split at p3
    · rename_i ds h
      obtain ⟨b, xs, rfl, q, r⟩ := itemsR_ok s3 rx3 h
      exact .inr ⟨b, xs, rfl, q, fun p hp => new_lst s3 (r.cut l u) (fun H' v e' s' r' => p3 ι3 H' e' s' v r') p hp⟩
    · exact p3.elim
end
end EV

namespace EV
open PySem L2 PySem.Spec PyProof.Rows
/-! ### built-in functions -/
abbrev GC := Sto → List D → Option D
def CalG (X : Cx) (f : Value) (g : GC) : Prop := ∃ r, CallR X f r ∧ ∀ (ι : Lay) (H : Hp) (S : Sto) (xs : List V) (ds : List D) (z : D) (Q : VK), RelS X.K ι H S → RelDs X.K ι H ds xs → g S ds = some z →
  (∀ H' v, Ext ι H ι H' → RelS X.K ι H' S → RelD X.K ι H' z v → Q v H') → r xs H Q
def eCallG (g : GC) (a : FA) : FE := fun ρ S => (a ρ S).bind fun ds S1 => ofOpt (g S1 ds) S1
def gcOr (g g' : GC) : GC := fun S ds => match g S ds with
  | some z => some z
  | none => g' S ds
section
variable {X : Cx} {W : WX}
theorem cal_weak {f : Value} {g : GC} {r : List V → Hp → VK → Prop} {fa : FA} (hr : ∀ (ι : Lay) (H : Hp) (S : Sto) (xs : List V) (ds : List D) (z : D) (Q : VK), RelS X.K ι H S → RelDs X.K ι H ds xs → g S ds = some z →
  (∀ H' v, Ext ι H ι H' → RelS X.K ι H' S → RelD X.K ι H' z v → Q v H') → r xs H Q) (σ : L2.St) (H : Hp) (Q : VK) (h : RE X.K W (eCallG g fa) σ H Q) : tCB r (RA X.K W fa) σ H Q := by
  obtain ⟨ι, ρ, S, hS, hE, hp⟩ := h
  refine ⟨ι, ρ, S, hS, hE, (Post.bind hp).imp fun ι1 H1 ds S1 e1 s1 p1 xs rx => ?_⟩
  cases h : g S1 ds with
  | none => rw [h] at p1; exact p1.elim
  | some z =>
    rw [h] at p1
    exact hr ι1 H1 S1 xs ds z Q s1 rx h fun H' v e' s' r' => p1 ι1 H' e' s' v r'
theorem se_callB {x : Str} {id : String} {p pos : Pos} {e : Expr} {es : List Expr} {g : GC} {fa : FA} (hc : CalG X (.builtin id) g) (hg : Gl X x) (hm : X.mg x = none) (hv : bootBuiltins x = some (.builtin id)) (ha : PA X (e :: es) (RA X.K W fa)) (hn : x ≠ "__name__") (hd : (x == ("__debug__" : Str)) = false)
    (he : starEach (e :: es) X.env = (false, eval e X.env) :: starEach es X.env) (hpl : (backTo pos (starEach es X.env)).any (·.1) = false) : PE X (.Call (.Name x p) (e :: es) [] pos) (RE X.K W (eCallG g fa)) := by
  obtain ⟨r, ho, hr⟩ := hc
  exact PE.weak (pe_callB ho hg hm hv ha hn hd he hpl) (cal_weak (f := .builtin id) hr)
theorem se_callTy {x : Str} {T : String} {p pos : Pos} {e : Expr} {es : List Expr} {g : GC} {fa : FA} (hc : CalG X (.type T) g) (hg : Gl X x) (hm : X.mg x = none) (hv : bootBuiltins x = some (.type T)) (ha : PA X (e :: es) (RA X.K W fa)) (hn : x ≠ "__name__") (hd : (x == ("__debug__" : Str)) = false)
    (he : starEach (e :: es) X.env = (false, eval e X.env) :: starEach es X.env) (hpl : (backTo pos (starEach es X.env)).any (·.1) = false) : PE X (.Call (.Name x p) (e :: es) [] pos) (RE X.K W (eCallG g fa)) := by
  obtain ⟨r, ho, hr⟩ := hc
  exact PE.weak (pe_callTy ho hg hm hv ha hn hd he hpl) (cal_weak (f := .type T) hr)
theorem CalG.or {f : Value} {g g' : GC} (h : CalG X f g) (h' : CalG X f g') : CalG X f (gcOr g g') := by
  obtain ⟨r, ho, hr⟩ := h
  obtain ⟨r', ho', hr'⟩ := h'
  refine ⟨_, ho.or ho', fun ι H S xs ds z Q hS rx hz k => ?_⟩
  unfold gcOr at hz
  cases hg : g S ds with
  | some z' => rw [hg] at hz; cases hz; exact .inl (hr ι H S xs ds _ Q hS rx hg k)
  | none => rw [hg] at hz; exact .inr (hr' ι H S xs ds _ Q hS rx hz k)
/-- len -/
def gLen : GC := fun S ds => match ds with
  | [d] => match itemsS S d with
    | some es => some (.int es.length)
    | none => match d with
      | .str x => if sz x.length = true then some (.int x.length) else none
      | _ => none
  | _ => none
theorem cg_len : CalG X (.builtin "len") gLen := by
  refine ⟨_, call_len, fun ι H S xs ds z Q hS rx hz k => ?_⟩
  unfold gLen at hz
  split at hz
  · obtain ⟨x, rfl, r1⟩ := rx.inv1
    split at hz
    · rename_i es h
      cases hz
      obtain ⟨a, ys, rfl, q, r⟩ := itemsS_ok hS r1 h
      refine ⟨.ref a, ys.length, rfl, ?_, k H _ Ext.refl hS (by rw [r.length]; exact relD_int _)⟩
      rcases q with q | q
      · exact .inr ⟨ys, q, rfl⟩
      · exact .inl ⟨ys, q, rfl⟩
    · split at hz
      · rename_i y _
        split at hz
        · rename_i h
          cases hz
          simp only [RelD] at r1
          subst r1
          exact ⟨.str y, y.length, rfl, ⟨sz_ok h, rfl⟩, k H _ Ext.refl hS (relD_int _)⟩
        · cases hz
      · cases hz
  · cases hz
/-- abs, int, max, min of two -/
def gAbs : GC := fun _ ds => match ds with
  | [.int i] => some (.int (if i < 0 then -i else i))
  | _ => none
theorem cg_abs : CalG X (.builtin "abs") gAbs := by
  refine ⟨_, call_abs, fun ι H S xs ds z Q hS rx hz k => ?_⟩
  unfold gAbs at hz
  split at hz
  · obtain ⟨x, rfl, r1⟩ := rx.inv1
    simp only [RelD] at r1
    subst r1
    cases hz
    exact ⟨_, rfl, k H _ Ext.refl hS (relD_int _)⟩
  · cases hz
def gInt : GC := fun _ ds => match ds with
  | [.int i] => some (.int i)
  | [.bl b] => some (.int (if b = true then 1 else 0))
  | _ => none
theorem cg_int : CalG X (.type "int") gInt := by
  refine ⟨_, call_int1, fun ι H S xs ds z Q hS rx hz k => ?_⟩
  unfold gInt at hz
  split at hz
  · obtain ⟨x, rfl, r1⟩ := rx.inv1
    simp only [RelD] at r1
    subst r1
    cases hz
    exact .inl ⟨_, rfl, k H _ Ext.refl hS (relD_int _)⟩
  · obtain ⟨x, rfl, r1⟩ := rx.inv1
    simp only [RelD] at r1
    subst r1
    cases hz
    exact .inr ⟨_, rfl, k H _ Ext.refl hS (relD_int _)⟩
  · cases hz
def gMax2 : GC := fun _ ds => match ds with
  | [.int i, .int j] => some (.int (if j > i then j else i))
  | _ => none
theorem cg_max2 (hc : X.calm = true) : CalG X (.builtin "max") gMax2 := by
  refine ⟨_, call_max2 hc, fun ι H S xs ds z Q hS rx hz k => ?_⟩
  unfold gMax2 at hz
  split at hz
  · obtain ⟨x, y, rfl, r1, r2⟩ := rx.inv2
    simp only [RelD] at r1 r2
    subst r1 r2
    cases hz
    exact ⟨_, _, rfl, k H _ Ext.refl hS (relD_int _)⟩
  · cases hz
def gMin2 : GC := fun _ ds => match ds with
  | [.int i, .int j] => some (.int (if j < i then j else i))
  | _ => none
theorem cg_min2 (hc : X.calm = true) : CalG X (.builtin "min") gMin2 := by
  refine ⟨_, call_min2 hc, fun ι H S xs ds z Q hS rx hz k => ?_⟩
  unfold gMin2 at hz
  split at hz
  · obtain ⟨x, y, rfl, r1, r2⟩ := rx.inv2
    simp only [RelD] at r1 r2
    subst r1 r2
    cases hz
    exact ⟨_, _, rfl, k H _ Ext.refl hS (relD_int _)⟩
  · cases hz
/-- tuple(x), list(x) -/
def gTuple : GC := fun S ds => match ds with
  | [d] => match itemsS S d with
    | some es => some (.tup es)
    | none => none
  | _ => none
theorem cg_tuple : CalG X (.type "tuple") gTuple := by
  refine ⟨_, call_tuple_of, fun ι H S xs ds z Q hS rx hz k => ?_⟩
  unfold gTuple at hz
  split at hz
  · obtain ⟨x, rfl, r1⟩ := rx.inv1
    split at hz
    · rename_i es h
      cases hz
      unfold itemsS at h
      split at h
      · rename_i es' h2
        cases h
        obtain ⟨a, ys, rfl, q, r⟩ := itemsT_ok r1 h2
        refine ⟨a, ys, rfl, .inr ⟨q, k H _ Ext.refl hS ?_⟩⟩
        unfold itemsT at h2
        split at h2
        · cases h2; exact r1
        · cases h2
      · obtain ⟨a, ys, rfl, q, r⟩ := itemsR_ok hS r1 h
        exact ⟨a, ys, rfl, .inl ⟨q, fun p hp => new_tup hS r k p hp⟩⟩
    · cases hz
  · cases hz
def gList : GC := fun S ds => match ds with
  | [d] => match itemsS S d with
    | some es => some (.lst es)
    | none => none
  | _ => none
theorem cg_list : CalG X (.type "list") gList := by
  refine ⟨_, call_list_of, fun ι H S xs ds z Q hS rx hz k => ?_⟩
  unfold gList at hz
  split at hz
  · obtain ⟨x, rfl, r1⟩ := rx.inv1
    split at hz
    · rename_i es h
      cases hz
      obtain ⟨a, ys, rfl, q, r⟩ := itemsS_ok hS r1 h
      exact ⟨a, ys, rfl, q.symm, fun p hp => new_lst hS r k p hp⟩
    · cases hz
  · cases hz
/-- isinstance(x, T), T a built-in type -/
def tyD (S : Sto) : D → Option String
  | .non => some "NoneType"
  | .bl _ => some "bool"
  | .int _ => some "int"
  | .str _ => some "str"
  | .tup _ => some "tuple"
  | .lst _ => some "list"
  | .frz _ => some "list"
  | .dct _ _ => some "dict"
  | .loc n => match S[n]? with
    | some (.lst _) => some "list"
    | none => none
  | _ => none
theorem tyD_ok {K : PySem.W.Frag} {ι : Lay} {H : Hp} {S : Sto} {d : D} {v : V} {n : String} (hS : RelS K ι H S) (r : RelD K ι H d v) (h : tyD S d = some n) : TyX K H v (.type n) := by
  cases d <;> simp only [tyD] at h <;> simp only [RelD] at r
  case non => cases h; subst r; exact .base .non
  case bl => cases h; subst r; exact .base (.bl _)
  case int => cases h; subst r; exact .base (.int _)
  case str => cases h; subst r; exact .base (.str _)
  case ty => cases h
  case ref => cases h
  case tup ds =>
    cases h
    obtain ⟨a, xs, rfl, q, r⟩ := r
    rcases sqT_of q with q | q
    · rcases q with q | ⟨o, q⟩
      · exact .base (.tup q)
      · exact .fTuple q
    · obtain ⟨o, its, n, e1, e2, _⟩ := q
      exact .kTuple e1 e2
  case lst ds =>
    cases h
    obtain ⟨a, xs, rfl, q, r⟩ := r
    exact .base (.lst q.2)
  case frz ds =>
    cases h
    obtain ⟨a, xs, rfl, q, r⟩ := r
    rcases sqL_of q with q | q
    · rcases q with q | ⟨o, q⟩
      · exact .base (.lst q)
      · exact .base (.frz q)
    · obtain ⟨o, its, n, e1, e2, _⟩ := q
      exact .kList e1 e2
  case dct ks ds =>
    cases h
    obtain ⟨a, xs, rfl, q, r⟩ := r
    exact .base (.dK q.2.1)
  case loc n =>
    split at h
    · rename_i ds e
      cases h
      obtain ⟨a, o, e1, e2, xs, rfl, r2⟩ := hS.at_ n _ e
      obtain ⟨b, rfl, e3⟩ := r
      rw [e1] at e3
      cases e3
      exact .base (.lst e2)
    · cases h
def gIsi : GC := fun S ds => match ds with
  | [d, .ty t] => match tyD S d with
    | some n => (kitB n t).map .bl
    | none => none
  | _ => none
theorem cg_isi : CalG X (.builtin "isinstance") gIsi := by
  refine ⟨_, call_isi, fun ι H S xs ds z Q hS rx hz k => ?_⟩
  unfold gIsi at hz
  split at hz
  · rename_i d t
    obtain ⟨x, y, rfl, r1, r2⟩ := rx.inv2
    simp only [RelD] at r2
    subst r2
    split at hz
    · rename_i n h
      cases e : kitB n t with
      | none => rw [e] at hz; cases hz
      | some b =>
        rw [e] at hz
        cases hz
        exact ⟨x, .ty t, .type n, .type t, b, rfl, .ty t, tyD_ok hS r1 h, kit_ty e, k H _ Ext.refl hS (relD_bl _)⟩
    · cases hz
  · cases hz
end
/-! ### walks over a list or a tuple -/
section
variable {X : Cx} {pins : List (Addr × Obj)} {σ : L2.St} {H : Hp} {s : Shared}
theorem walk_seq (I : Inv X pins σ H s) (hc : X.calm = true) {a : Addr} {xs : List V} (h : SqT X.K H a xs ∨ SqL X.K H a xs) : ∃ its : List Value, Vals xs its ∧ ∀ (E : Value → Shared → Prop) (Q : Value → Shared → Prop),
    (∀ (it : Addr) (fp wr : List Addr) (St : Nat → Heap → Prop) (s2 : Shared), Walks X.prog X.w X.A.in1 it fp wr its.toArray.size (fun i v => its.toArray[i]? = some v) St → St 0 s2.heap → (∀ b ∈ fp, b < s2.heap.objs.size) → (∀ b o, s.heap.get? b = some o → s2.heap.get? b = some o ∧ b ∉ wr) → s2 = { s with heap := s2.heap } → Q (.ref it) s2) →
    wpAny (model X.prog X.w) X.A.in1 (pyIter (.ref a)) Q E s := by
  rcases h with h | h
  · obtain ⟨its, rv, ht, hz⟩ := I.tuple h
    have ht' : s.heap.IsTuple a its.toArray := by obtain ⟨o, e, c, n, d⟩ := ht; exact ⟨o, e, c, n, d⟩
    have hlt : a < s.heap.objs.size := by obtain ⟨o, e, _⟩ := ht'; exact Heap.lt_size e
    refine ⟨its, rv, fun E Q k => wpAny_pyIter_tuple ht' ?_⟩
    refine k s.heap.objs.size [s.heap.objs.size, a] [s.heap.objs.size] _ _ (Walks.tuple (A := X.A.in1) (I.ok.hd hc) _ a (Nat.ne_of_lt hlt) its.toArray) ⟨⟨_, Heap.get?_push_size _ rfl, rfl, rfl⟩, ?_⟩ (fun b hb => ?_) (fun b o e => ⟨Heap.get?_push_of_some _ e, fun hm => ?_⟩) rfl
    · obtain ⟨o, e, c, n, d⟩ := ht'
      exact ⟨o, Heap.get?_push_of_some _ e, c, n, d⟩
    · show b < (s.heap.push _).objs.size
      rw [Heap.size_push]
      rcases List.mem_cons.mp hb with z | z
      · rw [z]; exact Nat.lt_succ_self _
      · have : b = a := by simpa using z
        rw [this]; exact Nat.lt_succ_of_lt hlt
    · have : b = s.heap.objs.size := by simpa using hm
      exact absurd (this ▸ Heap.lt_size e) (Nat.lt_irrefl _)
  · obtain ⟨its, rv, hl, _⟩ := I.list h
    have hlt : a < s.heap.objs.size := by obtain ⟨o, e, _⟩ := hl.isList; exact Heap.lt_size e
    refine ⟨its, rv, fun E Q k => iter_any hl.isList fun s2 e2 st hne => ?_⟩
    subst e2
    refine k s.heap.objs.size [s.heap.objs.size, a] [s.heap.objs.size] _ _ (Walks.list (A := X.A.in1) (I.ok.hd hc) _ a hne its.toArray) st (fun b hb => ?_) (fun b o e => ⟨Heap.get?_push_of_some _ e, fun hm => ?_⟩) rfl
    · show b < (s.heap.push _).objs.size
      rw [Heap.size_push]
      rcases List.mem_cons.mp hb with z | z
      · rw [z]; exact Nat.lt_succ_self _
      · have : b = a := by simpa using z
        rw [this]; exact Nat.lt_succ_of_lt hlt
    · have : b = s.heap.objs.size := by simpa using hm
      exact absurd (this ▸ Heap.lt_size e) (Nat.lt_irrefl _)
end
/-- truth of flat things -/
def truF : V → Option Bool
  | .non => some false
  | .bl b => some b
  | .int i => some (i != 0)
  | _ => none
def truFs : List V → Option (List Bool)
  | [] => some []
  | v :: vs => match truF v, truFs vs with
    | some b, some bs => some (b :: bs)
    | _, _ => none
theorem truFs_len : ∀ {xs : List V} {bs : List Bool}, truFs xs = some bs → xs.length = bs.length
  | [], bs, h => by simp only [truFs] at h; cases h; rfl
  | v :: vs, bs, h => by
    simp only [truFs] at h
    cases e1 : truF v with
    | none => rw [e1] at h; cases h
    | some b =>
      cases e2 : truFs vs with
      | none => rw [e1, e2] at h; cases h
      | some r =>
        rw [e1, e2] at h
        cases h
        simp [truFs_len e2]
theorem truFs_get : ∀ {xs : List V} {bs : List Bool} {i : Nat} {x : V}, truFs xs = some bs → xs[i]? = some x → ∃ b, bs[i]? = some b ∧ truF x = some b
  | [], bs, i, x, h, e => by simp at e
  | v :: vs, bs, i, x, h, e => by
    simp only [truFs] at h
    cases e1 : truF v with
    | none => rw [e1] at h; cases h
    | some b =>
      cases e2 : truFs vs with
      | none => rw [e1, e2] at h; cases h
      | some r =>
        rw [e1, e2] at h
        cases h
        cases i with
        | zero => simp at e; subst e; exact ⟨b, by simp, e1⟩
        | succ i =>
          obtain ⟨c, q1, q2⟩ := truFs_get e2 (i := i) (x := x) (by simpa using e)
          exact ⟨c, by simpa using q1, q2⟩
section
variable {X : Cx} {W : WX}
theorem truth_of {prog : Program} {w : World} {A : Around} {xs : List V} {its : List Value} {bs : List Bool} (r : Vals xs its) (h : truFs xs = some bs) : TruthOf prog w A (fun i v => its.toArray[i]? = some v) (fun i => bs.getD i false) := fun i v s Q E hv hq => by
  have hv' : its[i]? = some v := by simpa using hv
  have hl := r.length
  have hi : i < xs.length := by
    have := (List.getElem?_eq_some_iff.mp hv').1
    omega
  obtain ⟨u, e1, ru⟩ := r.get (i := i) (x := xs[i]) (by simp [hi])
  rw [hv'] at e1
  cases e1
  obtain ⟨b, e2, e3⟩ := truFs_get h (i := i) (x := xs[i]) (by simp [hi])
  have hg : bs.getD i false = b := by rw [List.getD_eq_getElem?_getD, e2] <;> rfl
  have hq' : Q (bs.getD i false) s := hq
  rw [hg] at hq'
  cases hx : xs[i] with
  | non => rw [hx] at ru e3; cases ru; cases e3; exact truthy_none hq'
  | bl c => rw [hx] at ru e3; cases ru; cases e3; exact wpAny_truthy_bool hq'
  | int c => rw [hx] at ru e3; obtain ⟨t, rfl⟩ := ru; cases e3; exact PySem.P.truthy_int hq'
  | _ => rw [hx] at e3; cases e3
def rAnyF (K : PySem.W.Frag) : List V → Hp → VK → Prop := fun vs H Q => ∃ (a : Addr) (xs : List V) (bs : List Bool), vs = [V.ref a] ∧ (SqT K H a xs ∨ SqL K H a xs) ∧ truFs xs = some bs ∧ Q (.bl (bs.any id)) H
def rAllF (K : PySem.W.Frag) : List V → Hp → VK → Prop := fun vs H Q => ∃ (a : Addr) (xs : List V) (bs : List Bool), vs = [V.ref a] ∧ (SqT K H a xs ∨ SqL K H a xs) ∧ truFs xs = some bs ∧ Q (.bl (bs.all id)) H
theorem cr_anyF (hc : X.calm = true) : CallR X (.builtin "any") (rAnyF X.K) := by
  intro pins s σ H vs us Q I r h
  obtain ⟨a, xs, bs, rfl, hs, ht, q⟩ := h
  obtain ⟨its, rv, hw⟩ := walk_seq I hc hs
  rw [Vals.ref1 r]
  refine call_any_walk (hw _ _ fun it fp wr St s2 Wk st hfp kp e2 => ?_)
  refine ⟨it, fp, wr, _, _, St, _, rfl, Wk, st, truth_of rv ht, fun h' tk hk => ?_⟩
  rw [e2]
  refine ⟨.bl _, H, I.kept fun b o eo => hk b o (kp b o eo).2 (kp b o eo).1, ?_, q⟩
  show Value.bool _ = Value.bool _
  rw [← L2.any_range, List.size_toArray, ← rv.length, truFs_len ht]
theorem cr_allF (hc : X.calm = true) : CallR X (.builtin "all") (rAllF X.K) := by
  intro pins s σ H vs us Q I r h
  obtain ⟨a, xs, bs, rfl, hs, ht, q⟩ := h
  obtain ⟨its, rv, hw⟩ := walk_seq I hc hs
  rw [Vals.ref1 r]
  refine call_all_walk (hw _ _ fun it fp wr St s2 Wk st hfp kp e2 => ?_)
  refine ⟨it, fp, wr, _, _, St, _, rfl, Wk, st, truth_of rv ht, fun h' tk hk => ?_⟩
  rw [e2]
  refine ⟨.bl _, H, I.kept fun b o eo => hk b o (kp b o eo).2 (kp b o eo).1, ?_, q⟩
  show Value.bool _ = Value.bool _
  rw [← L2.all_range, List.size_toArray, ← rv.length, truFs_len ht]
def rSumF (K : PySem.W.Frag) : List V → Hp → VK → Prop := fun vs H Q => ∃ (a : Addr) (ns : List Int), vs = [V.ref a] ∧ (SqT K H a (ns.map V.int) ∨ SqL K H a (ns.map V.int)) ∧ Q (.int ns.sum) H
theorem preSum_getD : ∀ (ns : List Int) (j : Nat), j ≤ ns.length → preSum (fun i => ns.getD i 0) j = (ns.take j).sum
  | ns, 0, _ => by simp [preSum]
  | ns, j + 1, h => by
    have ih := preSum_getD ns j (by omega)
    have hj : j < ns.length := by omega
    show preSum (fun i => ns.getD i 0) j + ns.getD j 0 = _
    rw [ih, List.take_succ, List.sum_append]
    simp [hj]
theorem cr_sumF (hc : X.calm = true) : CallR X (.builtin "sum") (rSumF X.K) := by
  intro pins s σ H vs us Q I r h
  obtain ⟨a, ns, rfl, hs, q⟩ := h
  obtain ⟨its, rv, hw⟩ := walk_seq I hc hs
  rw [Vals.ref1 r]
  refine call_sum_walkG (hw _ _ fun it fp wr St s2 Wk st hfp kp e2 => ?_)
  refine ⟨it, fp, wr, _, _, St, (fun i => ns.getD i 0), rfl, Wk, st, hfp, fun i v hv => ?_, fun h' tk t' hk => ?_⟩
  · have hv' : its[i]? = some v := by simpa using hv
    have hl := rv.length
    have hi : i < ns.length := by
      have := (List.getElem?_eq_some_iff.mp hv').1
      simp at hl
      omega
    obtain ⟨u, e1, ru⟩ := rv.get (i := i) (x := V.int ns[i]) (by simp [hi])
    rw [hv'] at e1
    cases e1
    obtain ⟨t, rfl⟩ := ru
    exact ⟨t, by simp [hi]⟩
  · rw [e2]
    have hl := rv.length
    simp at hl
    refine ⟨.int ns.sum, H, I.kept fun b o eo => hk b o (kp b o eo).2 (kp b o eo).1, ⟨t', ?_⟩, q⟩
    have hp : preSum (fun i => ns.getD i 0) its.toArray.size = ns.sum := by
      rw [List.size_toArray, ← hl, preSum_getD ns ns.length (Nat.le_refl _), List.take_length]
    rw [hp]
def intsD : List D → Option (List Int)
  | [] => some []
  | .int i :: ds => (intsD ds).map (i :: ·)
  | _ => none
theorem intsD_ok {K : PySem.W.Frag} {ι : Lay} {H : Hp} : ∀ {ds : List D} {xs : List V} {ns : List Int}, RelDs K ι H ds xs → intsD ds = some ns → xs = ns.map V.int
  | [], xs, ns, r, h => by simp only [RelDs, intsD] at r h; cases h; subst r; rfl
  | d :: ds, xs, ns, r, h => by
    simp only [RelDs] at r
    obtain ⟨x, t, rfl, r1, r2⟩ := r
    cases d <;> simp only [intsD] at h <;> try cases h
    rename_i i
    cases e : intsD ds with
    | none => rw [e] at h; cases h
    | some ms =>
      rw [e] at h
      cases h
      simp only [RelD] at r1
      subst r1
      rw [intsD_ok r2 e]
      rfl
def truDs : List D → Option (List Bool)
  | [] => some []
  | d :: ds => match flatD d with
    | some v => match truF v, truDs ds with
      | some b, some bs => some (b :: bs)
      | _, _ => none
    | none => none
theorem truDs_ok {K : PySem.W.Frag} {ι : Lay} {H : Hp} : ∀ {ds : List D} {xs : List V} {bs : List Bool}, RelDs K ι H ds xs → truDs ds = some bs → truFs xs = some bs
  | [], xs, bs, r, h => by simp only [RelDs, truDs] at r h; cases h; subst r; rfl
  | d :: ds, xs, bs, r, h => by
    simp only [RelDs, truDs] at r h
    obtain ⟨x, t, rfl, r1, r2⟩ := r
    cases e1 : flatD d with
    | none => rw [e1] at h; cases h
    | some v =>
      rw [e1] at h
      obtain ⟨rfl, _⟩ := flatD_ok r1 e1
      dsimp only at h
      cases e2 : truF x with
      | none => rw [e2] at h; cases h
      | some b =>
        cases e3 : truDs ds with
        | none => rw [e2, e3] at h; cases h
        | some cs =>
          rw [e2, e3] at h
          cases h
          simp only [truFs, e2, truDs_ok r2 e3]
def gSeq (f : List D → Option D) : GC := fun S ds => match ds with
  | [d] => match itemsS S d with
    | some es => f es
    | none => none
  | _ => none
theorem gSeq_ok {K : PySem.W.Frag} {ι : Lay} {H : Hp} {S : Sto} {f : List D → Option D} {ds : List D} {xs : List V} {z : D} (hS : RelS K ι H S) (rx : RelDs K ι H ds xs) (hz : gSeq f S ds = some z) : ∃ a es ys, xs = [.ref a] ∧ (SqT K H a ys ∨ SqL K H a ys) ∧ RelDs K ι H es ys ∧ f es = some z := by
  unfold gSeq at hz
  split at hz
  · obtain ⟨x, rfl, r1⟩ := rx.inv1
    split at hz
    · rename_i es h
      obtain ⟨a, ys, rfl, q, r⟩ := itemsS_ok hS r1 h
      exact ⟨a, es, ys, rfl, q, r, hz⟩
    · cases hz
  · cases hz
def gAny : GC := gSeq fun es => (truDs es).map fun bs => .bl (bs.any id)
def gAll : GC := gSeq fun es => (truDs es).map fun bs => .bl (bs.all id)
def gSum : GC := gSeq fun es => (intsD es).map fun ns => .int ns.sum
theorem cg_any (hc : X.calm = true) : CalG X (.builtin "any") gAny := by
  refine ⟨_, cr_anyF hc, fun ι H S xs ds z Q hS rx hz k => ?_⟩
  obtain ⟨a, es, ys, rfl, q, r, hf⟩ := gSeq_ok hS rx hz
  cases e : truDs es with
  | none => rw [e] at hf; cases hf
  | some bs =>
    rw [e] at hf
    cases hf
    exact ⟨a, ys, bs, rfl, q, truDs_ok r e, k H _ Ext.refl hS (relD_bl _)⟩
theorem cg_all (hc : X.calm = true) : CalG X (.builtin "all") gAll := by
  refine ⟨_, cr_allF hc, fun ι H S xs ds z Q hS rx hz k => ?_⟩
  obtain ⟨a, es, ys, rfl, q, r, hf⟩ := gSeq_ok hS rx hz
  cases e : truDs es with
  | none => rw [e] at hf; cases hf
  | some bs =>
    rw [e] at hf
    cases hf
    exact ⟨a, ys, bs, rfl, q, truDs_ok r e, k H _ Ext.refl hS (relD_bl _)⟩
theorem cg_sum (hc : X.calm = true) : CalG X (.builtin "sum") gSum := by
  refine ⟨_, cr_sumF hc, fun ι H S xs ds z Q hS rx hz k => ?_⟩
  obtain ⟨a, es, ys, rfl, q, r, hf⟩ := gSeq_ok hS rx hz
  cases e : intsD es with
  | none => rw [e] at hf; cases hf
  | some ns =>
    rw [e] at hf
    cases hf
    rw [intsD_ok r e] at q
    exact ⟨a, ns, rfl, q, k H _ Ext.refl hS (relD_int _)⟩
/-- the least, the greatest of a list of ints -/
def minL : List Int → Option Int
  | [] => none
  | [i] => some i
  | i :: r => (minL r).map fun m => if m < i then m else i
def maxL : List Int → Option Int
  | [] => none
  | [i] => some i
  | i :: r => (maxL r).map fun m => if i < m then m else i
theorem minL_mem : ∀ {ns : List Int} {m : Int}, minL ns = some m → m ∈ ns ∧ ∀ y ∈ ns, m ≤ y
  | [], m, h => by cases h
  | [i], m, h => by simp only [minL] at h; cases h; simp
  | i :: j :: r, m, h => by
    simp only [minL] at h
    cases e : minL (j :: r) with
    | none => rw [e] at h; cases h
    | some k =>
      rw [e] at h
      obtain ⟨h1, h2⟩ := minL_mem e
      simp only [Option.map_some, Option.some.injEq] at h
      subst h
      by_cases c : k < i
      · rw [if_pos c]
        exact ⟨List.mem_cons_of_mem _ h1, fun y hy => (List.mem_cons.mp hy).elim (fun z => by omega) (h2 y)⟩
      · rw [if_neg c]
        exact ⟨List.mem_cons_self, fun y hy => (List.mem_cons.mp hy).elim (fun z => by omega) fun z => by have := h2 y z; omega⟩
theorem maxL_mem : ∀ {ns : List Int} {m : Int}, maxL ns = some m → m ∈ ns ∧ ∀ y ∈ ns, y ≤ m
  | [], m, h => by cases h
  | [i], m, h => by simp only [maxL] at h; cases h; simp
  | i :: j :: r, m, h => by
    simp only [maxL] at h
    cases e : maxL (j :: r) with
    | none => rw [e] at h; cases h
    | some k =>
      rw [e] at h
      obtain ⟨h1, h2⟩ := maxL_mem e
      simp only [Option.map_some, Option.some.injEq] at h
      subst h
      by_cases c : i < k
      · rw [if_pos c]
        exact ⟨List.mem_cons_of_mem _ h1, fun y hy => (List.mem_cons.mp hy).elim (fun z => by omega) (h2 y)⟩
      · rw [if_neg c]
        exact ⟨List.mem_cons_self, fun y hy => (List.mem_cons.mp hy).elim (fun z => by omega) fun z => by have := h2 y z; omega⟩
def gExt (f : List Int → Option Int) : GC := fun S ds => match ds with
  | [d] => match itemsR S d with
    | some es => ((intsD es).bind f).map .int
    | none => none
  | _ => none
theorem gExt_ok {K : PySem.W.Frag} {ι : Lay} {H : Hp} {S : Sto} {f : List Int → Option Int} {ds : List D} {xs : List V} {z : D} (hS : RelS K ι H S) (rx : RelDs K ι H ds xs) (hz : gExt f S ds = some z) : ∃ a ns m, xs = [.ref a] ∧ SqL K H a (ns.map V.int) ∧ f ns = some m ∧ z = .int m := by
  unfold gExt at hz
  split at hz
  · obtain ⟨x, rfl, r1⟩ := rx.inv1
    split at hz
    · rename_i es h
      obtain ⟨a, ys, rfl, q, r⟩ := itemsR_ok hS r1 h
      cases e : intsD es with
      | none => rw [e] at hz; cases hz
      | some ns =>
        rw [e] at hz
        cases e2 : f ns with
        | none => simp only [Option.bind_some, e2] at hz; cases hz
        | some m =>
          simp only [Option.bind_some, e2] at hz
          cases hz
          rw [intsD_ok r e] at q
          exact ⟨a, ns, m, rfl, q, e2, rfl⟩
    · cases hz
  · cases hz
theorem pos_of_mem {α : Type} {x : α} {l : List α} (h : x ∈ l) : 0 < l.length := List.length_pos_of_mem h
theorem cg_minL (hc : X.calm = true) : CalG X (.builtin "min") (gExt minL) := by
  refine ⟨_, cr_min hc, fun ι H S xs ds z Q hS rx hz k => ?_⟩
  obtain ⟨a, ns, m, rfl, q, hf, rfl⟩ := gExt_ok hS rx hz
  obtain ⟨h1, h2⟩ := minL_mem hf
  refine ⟨a, ns, rfl, q, pos_of_mem h1, fun m' a1 a2 => k H _ Ext.refl hS ?_⟩
  have : m' = m := by have := h2 m' a1; have := a2 m h1; omega
  rw [this]
  exact relD_int _
theorem cg_maxL (hc : X.calm = true) : CalG X (.builtin "max") (gExt maxL) := by
  refine ⟨_, cr_max hc, fun ι H S xs ds z Q hS rx hz k => ?_⟩
  obtain ⟨a, ns, m, rfl, q, hf, rfl⟩ := gExt_ok hS rx hz
  obtain ⟨h1, h2⟩ := maxL_mem hf
  refine ⟨a, ns, rfl, q, pos_of_mem h1, fun m' a1 a2 => k H _ Ext.refl hS ?_⟩
  have : m' = m := by have := h2 m' a1; have := a2 m h1; omega
  rw [this]
  exact relD_int _
end
end EV

namespace EV
open PySem L2 PySem.Spec PyProof.Rows
/-! ### calls of the text's own defs -/
abbrev FC := List D → Sto → Res D
/-- a promise by positional values, called where no repr is under way -/
def FnG (P : Program) (w : World) (K : PySem.W.Frag) (mg : Str → Option Value) (base : Heap) (C : CXT) (k : Nat) (f : Addr) (sp : Sp) : Prop :=
  ∀ (A : Around) (outer : List PySem.Env) (s : Shared) (H : Hp) (us : List Value) (vs : List V) (Q : VK) (E : XK), Room k A → A.guards = some [] → Env0 P w K mg base A outer s H → Vals vs us → sp vs H Q E →
    codeAny (model P w) A (.call (.ref f) ⟨us, []⟩) (CR C outer P w H s Q E) s
theorem FnG.mono {P : Program} {w : World} {K : PySem.W.Frag} {mg : Str → Option Value} {base : Heap} {C : CXT} {j k : Nat} {f : Addr} {sp : Sp} (F : FnG P w K mg base C j f sp) (h : j ≤ k) : FnG P w K mg base C k f sp :=
  fun A outer s H us vs Q E hr => F A outer s H us vs Q E (hr.mono h)
def W0 : WX := fun _ _ _ _ => False
def spD (K : PySem.W.Frag) (F : FC) : Sp := fun vs H Q E => ∃ ι S ds, RelS K ι H S ∧ RelDs K ι H ds vs ∧ Post K (fun c d _ H' => E c d H') [] ι H (F ds S) fun ι' H' d _ => ∀ v, RelD K ι' H' d v → Q v H'
def eCall (F : FC) (a : FA) : FE := fun ρ S => (a ρ S).bind fun ds S1 => F ds S1
theorem Post.reW {K : PySem.W.Frag} {W W' : WX} {σ σ' : L2.St} {ι : Lay} {H : Hp} {α : Type} {r : Res α} {k : Lay → Hp → α → Sto → Prop} (h : Post K W σ ι H r k) (w : ∀ c d H', W c d σ H' → W' c d σ' H') : Post K W' σ' ι H r k := by
  cases r with
  | ok a S' => exact h
  | exc x S' => exact fun ι2 H2 c d e2 s2 r2 => w c d H2 (h ι2 H2 c d e2 s2 r2)
  | stuck => exact h
section
variable {X : Cx} {W : WX} {k : Nat} {f : Addr} {F : FC} {x : Str} {p pos : Pos} {e : Expr} {es : List Expr} {fa : FA}
theorem run_fnD {pins : List (Addr × Obj)} {σ : L2.St} {H : Hp} {s : Shared} {Q : VK} {us : List Value} {vs : List V} (G : FnG X.prog X.w X.K X.mg X.base (L2.CX X.prog X.w) k f (spD X.K F)) (hr : Room k X.A) (hgu : X.A.guards = some []) (hx : PassesAt (L2.CX X.prog X.w) X σ (WE W σ))
    (I : Inv X pins σ H s) (r : Vals vs us) (h : spD X.K F vs H Q (WE W σ)) : wpAny (model X.prog X.w) X.A (call (.ref f) us) (EP X pins σ Q) X.xe s := by
  refine wpAny_call (codeAny_mono (G X.A X.stack s H us vs Q (WE W σ) hr hgu I.env0 r h) fun r s' hq => ?_)
  cases r with
  | error e => exact hx pins H s e s' I hq
  | ok fl =>
    cases fl with
    | ret u => exact I.after hq
    | next => exact False.elim hq
    | brk => exact False.elim hq
    | cont => exact False.elim hq
theorem call_weak (σ : L2.St) (H : Hp) (Q : VK) (h : RE X.K W (eCall F fa) σ H Q) : RA X.K W fa σ H fun vs H1 => spD X.K F vs H1 Q (WE W σ) := by
  obtain ⟨ι, ρ, S, hS, hE, hp⟩ := h
  refine ⟨ι, ρ, S, hS, hE, (Post.bind hp).imp fun ι1 H1 ds S1 e1 s1 p1 xs rx => ?_⟩
  exact ⟨ι1, S1, ds, s1, rx, p1.reW fun _ _ _ h => h⟩
/-- f(e, ..), no star -/
theorem se_call (G : FnG X.prog X.w X.K X.mg X.base (L2.CX X.prog X.w) k f (spD X.K F)) (hr : Room k X.A) (hgu : X.A.guards = some []) (hg : Gl X x) (hm : X.mg x = some (.ref f)) (hk : PySem.W.keepIn X.K (.ref f) = true) (hx : ∀ σ, PassesAt (L2.CX X.prog X.w) X σ (WE W σ))
    (ha : PA X (e :: es) (RA X.K W fa)) (hdb : (x == ("__debug__" : Str)) = false) (he : starEach (e :: es) X.env = (false, eval e X.env) :: starEach es X.env) (hpl : (backTo pos (starEach es X.env)).any (·.1) = false) :
    PE X (.Call (.Name x p) (e :: es) [] pos) (RE X.K W (eCall F fa)) := by
  refine ⟨fun pins s σ H Q I h => ?_⟩
  refine wpAny_Call_Name_kw (ld_glob I hg hm ?_ hdb)
  refine PySem.W.callWith_K (h₀ := X.base) I.ok.mod.kin hk (thn (ha.run pos pins s σ H _ I (call_weak σ H Q h)) fun us s1 ⟨vs, H1, I1, r, q⟩ => ⟨I1.kIn, ?_⟩) he hpl
  exact run_fnD G hr hgu (hx σ) I1 r q
/-- f(e, .., *x, ..) -/
theorem se_callS2 (G : FnG X.prog X.w X.K X.mg X.base (L2.CX X.prog X.w) k f (spD X.K F)) (hr : Room k X.A) (hgu : X.A.guards = some []) (hg : Gl X x) (hm : X.mg x = some (.ref f)) (hk : PySem.W.keepIn X.K (.ref f) = true) (hx : ∀ σ, PassesAt (L2.CX X.prog X.w) X σ (WE W σ))
    (ha : PA X (e :: es) (RA X.K W fa)) (hdb : (x == ("__debug__" : Str)) = false) (he : starEach (e :: es) X.env = (false, eval e X.env) :: starEach es X.env) (hst : (backTo pos (starEach es X.env)).any (·.1) = true) :
    PE X (.Call (.Name x p) (e :: es) [] pos) (RE X.K W (eCall F fa)) := by
  refine ⟨fun pins s σ H Q I h => ?_⟩
  refine wpAny_Call_Name_kw (ld_glob I hg hm ?_ hdb)
  refine PySem.W.callWith_S2 (h₀ := X.base) I.ok.mod.kin hk (thn (ha.run pos pins s σ H _ I (call_weak σ H Q h)) fun us s1 ⟨vs, H1, I1, r, q⟩ => ⟨I1.kIn, ?_⟩) he hst
  exact run_fnD G hr hgu (hx σ) I1 r q
/-- f() -/
theorem se_call0 (G : FnG X.prog X.w X.K X.mg X.base (L2.CX X.prog X.w) k f (spD X.K F)) (hr : Room k X.A) (hgu : X.A.guards = some []) (hg : Gl X x) (hm : X.mg x = some (.ref f)) (hk : PySem.W.keepIn X.K (.ref f) = true) (hx : ∀ σ, PassesAt (L2.CX X.prog X.w) X σ (WE W σ))
    (hdb : (x == ("__debug__" : Str)) = false) : PE X (.Call (.Name x p) [] [] pos) (RE X.K W (eCall F aNil)) := by
  refine ⟨fun pins s σ H Q I h => ?_⟩
  have h2 := call_weak σ H Q h
  obtain ⟨ι, ρ, S, hS, hE, hp⟩ := h2
  have h3 := hp.ok hS [] RelDs.nil
  refine wpAny_Call_Name_kw (ld_glob I hg hm ?_ hdb)
  exact PySem.W.callWith_K0 I.kIn hk (run_fnD G hr hgu (hx σ) I .nil h3)
end
/-! ### what is walked -/
abbrev FI := Env → Sto → Res (List D)
/-- an iterator that gives out these items, however the heap goes on -/
def ItG (K : PySem.W.Frag) (J : It) (ι : Lay) (H : Hp) (ds : List D) : Prop := ∀ ι' H' S', WExt ι H ι' H' → RelS K ι' H' S' → ∀ i, (i < ds.length → J.go i H') ∧ (ds.length ≤ i → J.stop i H') ∧
  ∀ x H'' d, J.yld i H' x H'' → ds[i]? = some d → Ext ι' H' ι' H'' ∧ RelS K ι' H'' S' ∧ RelD K ι' H'' d x
def RI (K : PySem.W.Frag) (W : WX) (f : FI) : TI := fun σ H R => ∃ ι ρ S, RelS K ι H S ∧ RelE K ι H σ ρ ∧ Post K W σ ι H (f ρ S) fun ι' H' ds _ => ∀ J, ItG K J ι' H' ds → R J H'
theorem PI.weak {X : Cx} {tg iter : Expr} {t t' : TI} (h : PI X tg iter t) (w : ∀ σ H R, t' σ H R → t σ H R) : PI X tg iter t' := ⟨fun pins s σ H R I q => h.run pins s σ H R I (w σ H R q)⟩
/-- a list or a tuple (not of the store: that may change under way) -/
def itemsI : D → Option (List D)
  | .tup ds => some ds
  | .lst ds => some ds
  | .frz ds => some ds
  | _ => none
def iSeq (a : FE) : FI := fun ρ S => (a ρ S).bind fun d S1 => ofOpt (itemsI d) S1
section
variable {X : Cx} {W : WX} {tg : Expr}
theorem itgT {K : PySem.W.Frag} {ι : Lay} {H : Hp} {a : Addr} {xs : List V} {ds : List D} (q : (ι.ok a ∧ Rd H a (.tup xs)) ∨ SqT K Hn a xs) (r : RelDs K ι H ds xs) : ItG K (Itt K a) ι H ds := by
  intro ι' H' S' e s' i
  have q' : SqT K H' a xs := by
    rcases q with ⟨n, q⟩ | q
    · exact .inl (e.rd n q).2
    · exact sqT_of (ι := ι) (H := H') (.inr q)
  have hl := r.length
  refine ⟨fun h => ⟨xs, xs[i]'(by omega), q', by simp [hl, h]⟩, fun h => ⟨xs, q', by omega⟩, fun x H'' d y hd => ?_⟩
  obtain ⟨e1, y⟩ := y
  subst e1
  obtain ⟨x', e2, r2⟩ := r.get hd
  have := y xs q'
  rw [e2] at this
  cases this
  exact ⟨Ext.refl, s', RelD.wmono e _ _ r2⟩
theorem itgL {K : PySem.W.Frag} {ι : Lay} {H : Hp} {a : Addr} {xs : List V} {ds : List D} (q : (ι.ok a ∧ Rd H a (.lst xs)) ∨ SqL K Hn a xs) (r : RelDs K ι H ds xs) : ItG K (Itl K a) ι H ds := by
  intro ι' H' S' e s' i
  have q' : SqL K H' a xs := by
    rcases q with ⟨n, q⟩ | q
    · exact .inl (e.rd n q).2
    · exact sqL_of (ι := ι) (H := H') (.inr q)
  have hl := r.length
  refine ⟨fun h => ⟨xs, xs[i]'(by omega), q', by simp [hl, h]⟩, fun h => ⟨xs, q', by omega⟩, fun x H'' d y hd => ?_⟩
  obtain ⟨e1, y⟩ := y
  subst e1
  obtain ⟨x', e2, r2⟩ := r.get hd
  have := y xs q'
  rw [e2] at this
  cases this
  exact ⟨Ext.refl, s', RelD.wmono e _ _ r2⟩
/-- a list or a tuple, walked -/
def iSq (K : PySem.W.Frag) (tl : TE) : TI := fun σ H R => tl σ H fun x H1 => ∃ a, x = .ref a ∧ (((∃ xs, SqL K H1 a xs) ∧ R (Itl K a) H1) ∨ ((∃ xs, SqT K H1 a xs) ∧ R (Itt K a) H1))
theorem pi_sq {l : Expr} {tl : TE} (hl : PE X l tl) : PI X tg l (iSq X.K tl) := by
  refine ⟨fun pins s σ H R I h => ?_⟩
  refine thn (hl.run pins s σ H _ I h) fun v s1 ⟨x, H1, I1, r1, q1⟩ => ?_
  obtain ⟨a, e, q1⟩ := q1
  subst e
  cases r1
  rcases q1 with ⟨⟨xs, hq⟩, q⟩ | ⟨⟨xs, hq⟩, q⟩
  · obtain ⟨its, rv, p, hz⟩ := I1.list hq
    refine wpAny_pyIter_list p.isList ?_
    refine ⟨s1.heap.objs.size, [s1.heap.objs.size], _, _, H1, rfl, I1.kept (t' := s1.toks) fun b o e => Heap.get?_push_of_some _ e, turn_list a _, ⟨_, Heap.get?_push_size _ rfl, rfl, rfl⟩, fun b hb => ?_, q⟩
    have e : b = s1.heap.objs.size := by simpa using hb
    subst e
    exact I1.fpOk (Nat.le_refl _) (I1.hok.fresh (Nat.le_refl _))
  · obtain ⟨its, rv, p, hz⟩ := I1.tuple hq
    refine wpAny_pyIter_tuple (show s1.heap.IsTuple a its.toArray from p) ?_
    refine ⟨s1.heap.objs.size, [s1.heap.objs.size], _, _, H1, rfl, I1.kept (t' := s1.toks) fun b o e => Heap.get?_push_of_some _ e, turn_tuple a _, ⟨_, Heap.get?_push_size _ rfl, rfl, rfl⟩, fun b hb => ?_, q⟩
    have e : b = s1.heap.objs.size := by simpa using hb
    subst e
    exact I1.fpOk (Nat.le_refl _) (I1.hok.fresh (Nat.le_refl _))
theorem si_seq {l : Expr} {fa : FE} (hl : PE X l (RE X.K W fa)) : PI X tg l (RI X.K W (iSeq fa)) := by
  refine PI.weak (pi_sq hl) fun σ H R ⟨ι, ρ, S, hS, hE, hp⟩ => ⟨ι, ρ, S, hS, hE, (Post.bind hp).imp fun ι1 H1 d S1 e1 s1 p1 x rx => ?_⟩
  cases h : itemsI d with
  | none => rw [h] at p1; exact p1.elim
  | some ds =>
    rw [h] at p1
    have p2 := p1.ok s1
    cases d <;> simp only [itemsI] at h <;> cases h <;> simp only [RelD] at rx
    · obtain ⟨a, xs, rfl, q, r⟩ := rx
      exact ⟨a, rfl, .inr ⟨⟨xs, sqT_of q⟩, p2 _ (itgT q r)⟩⟩
    · obtain ⟨a, xs, rfl, q, r⟩ := rx
      exact ⟨a, rfl, .inl ⟨⟨xs, .of q.2⟩, p2 _ (itgL (.inl ⟨q.1, .inl q.2⟩) r)⟩⟩
    · obtain ⟨a, xs, rfl, q, r⟩ := rx
      exact ⟨a, rfl, .inl ⟨⟨xs, sqL_of q⟩, p2 _ (itgL q r)⟩⟩
/-- range(n), range(a, b) -/
def rngD (lo : Int) (n : Nat) : List D := (List.range n).map fun (i : Nat) => .int (lo + i)
theorem itgR {K : PySem.W.Frag} {ι : Lay} {H : Hp} (lo : Int) (n : Nat) : ItG K (Itr lo n) ι H (rngD lo n) := by
  intro ι' H' S' e s' i
  have hl : (rngD lo n).length = n := by simp [rngD]
  refine ⟨fun h => by rw [hl] at h; exact h, fun h => by rw [hl] at h; exact h, fun x H'' d y hd => ?_⟩
  obtain ⟨e1, e2⟩ := y
  subst e1 e2
  have : d = .int (lo + i) := by
    unfold rngD at hd
    rw [List.getElem?_map] at hd
    cases h : (List.range n)[i]? with
    | none => rw [h] at hd; cases hd
    | some j =>
      rw [h] at hd
      obtain ⟨h1, h2⟩ := List.getElem?_eq_some_iff.mp h
      simp at h2
      cases hd
      rw [h2]
  subst this
  exact ⟨Ext.refl, s', relD_int _⟩
def b62 (i : Int) : Bool := decide (-(2 ^ 62) ≤ i) && decide (i < 2 ^ 62)
def iRange1 (a : FE) : FI := fun ρ S => (a ρ S).bind fun d S1 => match d with
  | .int j => if b62 j = true then .ok (rngD 0 j.toNat) S1 else .stuck
  | _ => .stuck
def iRange2 (a b : FE) : FI := fun ρ S => (a ρ S).bind fun d S1 => (b ρ S1).bind fun e S2 => match d, e with
  | .int i, .int j => if (b62 i && b62 j) = true then .ok (rngD i (j - i).toNat) S2 else .stuck
  | _, _ => .stuck
theorem si_range1 {a : Expr} {p pos : Pos} {fa : FE} (hg : Gl X "range") (hm : X.mg "range" = none) (ha : PE X a (RE X.K W fa)) (hs : starEach [a] X.env = [(false, eval a X.env)]) : PI X tg (.Call (.Name "range" p) [a] [] pos) (RI X.K W (iRange1 fa)) := by
  refine PI.weak (pi_range1 hg hm (pa_cons ha pa_nil hs) hs) fun σ H R ⟨ι, ρ, S, hS, hE, hp⟩ => ?_
  refine ⟨ι, ρ, S, hS, hE, (Post.bind hp).imp fun ι1 H1 d S1 e1 s1 p1 x rx => ?_⟩
  split at p1
  · simp only [RelD] at rx
    subst rx
    split at p1
    · rename_i h
      unfold b62 at h
      simp only [Bool.and_eq_true, decide_eq_true_eq] at h
      exact ⟨_, rfl, h.1, h.2, p1.ok s1 _ (itgR 0 _)⟩
    · exact p1.elim
  · exact p1.elim
theorem si_range2 {a b : Expr} {p pos : Pos} {fa fb : FE} (hg : Gl X "range") (hm : X.mg "range" = none) (ha : PE X a (RE X.K W fa)) (hb : PE X b (RE X.K W fb)) (hs : starEach [a, b] X.env = [(false, eval a X.env), (false, eval b X.env)]) (hs2 : starEach [b] X.env = [(false, eval b X.env)]) :
    PI X tg (.Call (.Name "range" p) [a, b] [] pos) (RI X.K W (iRange2 fa fb)) := by
  refine PI.weak (pi_range2 hg hm (pa_cons ha (pa_cons hb pa_nil hs2) (by rw [hs, hs2])) hs hs2) fun σ H R ⟨ι, ρ, S, hS, hE, hp⟩ => ?_
  refine ⟨ι, ρ, S, hS, hE, (Post.bind hp).imp fun ι1 H1 d S1 e1 s1 p1 x rx => ?_⟩
  refine ⟨ι1, ρ, S1, s1, hE.mono e1, (Post.bind p1).imp fun ι2 H2 d2 S2 e2 s2 p2 y ry => ?_⟩
  have rx2 := rx.mono e2
  split at p2
  · simp only [RelD] at rx2 ry
    subst rx2 ry
    split at p2
    · rename_i h
      unfold b62 at h
      simp only [Bool.and_eq_true, decide_eq_true_eq] at h
      exact ⟨_, _, rfl, ⟨h.1.1, h.1.2, h.2.1, h.2.2⟩, p2.ok s2 _ (itgR _ _)⟩
    · exact p2.elim
  · exact p2.elim
/-- zip of two tuples or of two lists, to a target of two names -/
def zipD : List D → List D → List D
  | d :: ds, e :: es => .tup [d, e] :: zipD ds es
  | _, _ => []
theorem zipD_len : ∀ (ds es : List D), (zipD ds es).length = min ds.length es.length
  | [], es => by simp [zipD]
  | d :: ds, [] => by simp [zipD]
  | d :: ds, e :: es => by simp only [zipD, List.length_cons, zipD_len ds es]; omega
theorem zipD_get : ∀ {ds es : List D} {i : Nat} {z : D}, (zipD ds es)[i]? = some z → ∃ d e, ds[i]? = some d ∧ es[i]? = some e ∧ z = .tup [d, e]
  | [], es, i, z, h => by simp [zipD] at h
  | d :: ds, [], i, z, h => by simp [zipD] at h
  | d :: ds, e :: es, i, z, h => by
    cases i with
    | zero => simp [zipD] at h; exact ⟨d, e, by simp, by simp, h.symm⟩
    | succ i =>
      obtain ⟨d', e', h1, h2, h3⟩ := zipD_get (ds := ds) (es := es) (i := i) (z := z) (by simpa [zipD] using h)
      exact ⟨d', e', by simpa using h1, by simpa using h2, h3⟩
def iZipF (a b : FE) : FI := fun ρ S => (a ρ S).bind fun d S1 => (b ρ S1).bind fun e S2 => match d, e with
  | .tup ds, .tup es => .ok (zipD ds es) S2
  | .lst ds, .lst es => .ok (zipD ds es) S2
  | _, _ => .stuck
theorem itg_zip {K : PySem.W.Frag} {ι : Lay} {H : Hp} {ds es : List D} {xs ys : List V} {J : It} (r1 : RelDs K ι H ds xs) (r2 : RelDs K ι H es ys) (Sq : Hp → List V → Prop) (Sq2 : Hp → List V → Prop)
    (k1 : ∀ ι' H', WExt ι H ι' H' → Sq H' xs) (k2 : ∀ ι' H', WExt ι H ι' H' → Sq2 H' ys) (go : ∀ i H' (x y : V), Sq H' xs → Sq2 H' ys → xs[i]? = some x → ys[i]? = some y → J.go i H') (st : ∀ i H', Sq H' xs → Sq2 H' ys → (xs.length ≤ i ∨ ys.length ≤ i) → J.stop i H')
    (yl : ∀ i H' x H'', J.yld i H' x H'' → ∃ T x1 y1, x = .ref T ∧ H' T = none ∧ H'' = upd H' T (.tup [x1, y1]) ∧ (∀ zs, Sq H' zs → zs[i]? = some x1) ∧ ∀ zs, Sq2 H' zs → zs[i]? = some y1) : ItG K J ι H (zipD ds es) := by
  intro ι' H' S' e s' i
  have l1 := r1.length
  have l2 := r2.length
  have q1 := k1 _ _ e
  have q2 := k2 _ _ e
  refine ⟨fun h => ?_, fun h => ?_, fun x H'' d y hd => ?_⟩
  · rw [zipD_len] at h
    exact go i H' (xs[i]'(by omega)) (ys[i]'(by omega)) q1 q2 (List.getElem?_eq_getElem _) (List.getElem?_eq_getElem _)
  · rw [zipD_len] at h
    exact st i H' q1 q2 (by omega)
  · obtain ⟨T, x1, y1, rfl, hT, rfl, a1, a2⟩ := yl i H' x H'' y
    obtain ⟨d1, d2, g1, g2, rfl⟩ := zipD_get hd
    obtain ⟨x', b1, b2⟩ := r1.get g1
    obtain ⟨y', c1, c2⟩ := r2.get g2
    have t1 := a1 _ q1
    have t2 := a2 _ q2
    rw [b1] at t1
    rw [c1] at t2
    cases t1
    cases t2
    exact ⟨ext_new s' hT, s'.new hT, relD_tup_new (s'.fresh hT) upd_same (.cons ((RelD.wmono e _ _ b2).mono (ext_new s' hT)) (.cons ((RelD.wmono e _ _ c2).mono (ext_new s' hT)) .nil))⟩
theorem si_zip {elts : List Expr} {kk : Nat} {tpos : Pos} {a b : Expr} {p pos : Pos} {fa fb : FE} (hg : Gl X "zip") (hm : X.mg "zip" = none) (ha : PE X a (RE X.K W fa)) (hb : PE X b (RE X.K W fb)) (hs : starEach [a, b] X.env = (false, eval a X.env) :: starEach [b] X.env) (hs2 : starEach [b] X.env = [(false, eval b X.env)]) :
    PI X (.Tuple elts kk tpos) (.Call (.Name "zip" p) [a, b] [] pos) (RI X.K W (iZipF fa fb)) := by
  refine PI.weak (RZ.pi_zipA hg hm (pa_cons ha (pa_cons hb pa_nil hs2) hs) hs (by rw [hs2]; rfl)) fun σ H R ⟨ι, ρ, S, hS, hE, hp⟩ => ?_
  refine ⟨ι, ρ, S, hS, hE, (Post.bind hp).imp fun ι1 H1 d S1 e1 s1 p1 x rx => ?_⟩
  refine ⟨ι1, ρ, S1, s1, hE.mono e1, (Post.bind p1).imp fun ι2 H2 d2 S2 e2 s2 p2 y ry => ?_⟩
  have rx2 := rx.mono e2
  split at p2
  · simp only [RelD] at rx2 ry
    obtain ⟨a, xs, rfl, q1, r1⟩ := rx2
    obtain ⟨b, ys, rfl, q2, r2⟩ := ry
    refine ⟨a, b, xs, ys, rfl, .inr ⟨sqT_of q1, sqT_of q2, p2.ok s2 _ (itg_zip r1 r2 (fun H' zs => SqT X.K H' a zs) (fun H' zs => SqT X.K H' b zs) (fun ι' H' e => ?_) (fun ι' H' e => ?_)
      (fun i H' x y h1 h2 h3 h4 => ⟨xs, ys, x, y, h1, h2, h3, h4⟩) (fun i H' h1 h2 h3 => ⟨xs, ys, h1, h2, h3⟩) fun i H' x H'' h => h)⟩⟩
    · rcases q1 with ⟨n, q⟩ | q
      · exact .inl (e.rd n q).2
      · exact sqT_of (ι := ι2) (H := H') (.inr q)
    · rcases q2 with ⟨n, q⟩ | q
      · exact .inl (e.rd n q).2
      · exact sqT_of (ι := ι2) (H := H') (.inr q)
  · simp only [RelD] at rx2 ry
    obtain ⟨a, xs, rfl, q1, r1⟩ := rx2
    obtain ⟨b, ys, rfl, q2, r2⟩ := ry
    refine ⟨a, b, xs, ys, rfl, .inl ⟨.of q1.2, .of q2.2, p2.ok s2 _ (itg_zip r1 r2 (fun H' zs => SqL X.K H' a zs) (fun H' zs => SqL X.K H' b zs) (fun ι' H' e => .of (e.keep _ _ q1.2 q1.1).1) (fun ι' H' e => .of (e.keep _ _ q2.2 q2.1).1)
      (fun i H' x y h1 h2 h3 h4 => ⟨xs, ys, x, y, h1, h2, h3, h4⟩) (fun i H' h1 h2 h3 => ⟨xs, ys, h1, h2, h3⟩) fun i H' x H'' h => h)⟩⟩
  · exact p2.elim
/-! ### targets: a name, a tuple of names -/
inductive Tgt where
  | nm (i : Nat)
  | tp (is : List Nat)
def setV : List Nat → List V → L2.St → L2.St
  | i :: is, x :: xs, σ => setV is xs (σ.set i (some x))
  | _, _, σ => σ
def setD : List Nat → List D → Env → Env
  | i :: is, d :: ds, ρ => setD is ds (ρ.set i (some d))
  | _, _, ρ => ρ
def Tgt.slots : Tgt → List Nat
  | .nm i => [i]
  | .tp is => is
def Tgt.d : Tgt → D → Env → Option Env
  | .nm i, d, ρ => some (ρ.set i (some d))
  | .tp is, d, ρ => match itemsI d with
    | some ds => if ds.length = is.length then some (setD is ds ρ) else none
    | none => none
theorem itemsI_ok {K : PySem.W.Frag} {ι : Lay} {H : Hp} {d : D} {v : V} {ds : List D} (r : RelD K ι H d v) (h : itemsI d = some ds) : ∃ a xs, v = .ref a ∧ (SqT K H a xs ∨ SqL K H a xs) ∧ RelDs K ι H ds xs := by
  unfold itemsI at h
  split at h
  · cases h
    simp only [RelD] at r
    obtain ⟨a, xs, rfl, q, r⟩ := r
    exact ⟨a, xs, rfl, .inl (sqT_of q), r⟩
  · cases h
    simp only [RelD] at r
    obtain ⟨a, xs, rfl, q, r⟩ := r
    exact ⟨a, xs, rfl, .inr (.of q.2), r⟩
  · cases h
    simp only [RelD] at r
    obtain ⟨a, xs, rfl, q, r⟩ := r
    exact ⟨a, xs, rfl, .inr (sqL_of q), r⟩
  · cases h
def tgV (K : PySem.W.Frag) : Tgt → TG
  | .nm i => gName i
  | .tp is => fun v σ H Q => ∃ a xs, v = .ref a ∧ (SqT K H a xs ∨ SqL K H a xs) ∧ xs.length = is.length ∧ Q (setV is xs σ) H
theorem RelE.sets {K : PySem.W.Frag} {ι : Lay} {H : Hp} : ∀ {is : List Nat} {ds : List D} {xs : List V} {σ : L2.St} {ρ : Env}, RelE K ι H σ ρ → RelDs K ι H ds xs → RelE K ι H (setV is xs σ) (setD is ds ρ)
  | [], ds, xs, σ, ρ, h, r => by
    cases ds <;> cases xs <;> exact h
  | i :: is, [], xs, σ, ρ, h, r => by simp only [RelDs] at r; subst r; exact h
  | i :: is, d :: ds, xs, σ, ρ, h, r => by
    simp only [RelDs] at r
    obtain ⟨x, t, rfl, r1, r2⟩ := r
    show RelE K ι H (setV is t (σ.set i (some x))) (setD is ds (ρ.set i (some d)))
    exact RelE.sets (h.set r1) r2
/-- what a target does, in both worlds -/
theorem tgt_ok {K : PySem.W.Frag} {ι : Lay} {H : Hp} {t : Tgt} {d : D} {x : V} {σ : L2.St} {ρ ρ' : Env} {Q : L2.St → Hp → Prop} (hE : RelE K ι H σ ρ) (hd : RelD K ι H d x) (hf : t.d d ρ = some ρ')
    (k : ∀ xs, RelE K ι H (setV t.slots xs σ) ρ' → Q (setV t.slots xs σ) H) : tgV K t x σ H Q := by
  cases t with
  | nm i =>
    simp only [Tgt.d] at hf
    cases hf
    exact k [x] (hE.set hd)
  | tp is =>
    simp only [Tgt.d] at hf
    split at hf
    · rename_i ds h
      split at hf
      · rename_i hl
        cases hf
        obtain ⟨a, xs, rfl, q, r⟩ := itemsI_ok hd h
        exact ⟨a, xs, rfl, q, by rw [r.length]; exact hl, k xs (hE.sets r)⟩
      · cases hf
    · cases hf
def namesOf : List Expr → List Str
  | .Name x _ :: es => x :: namesOf es
  | _ => []
/-- the names of a written tuple of names stand in these slots -/
inductive NmsOk (X : Cx) : List Expr → List Nat → Prop
  | nil : NmsOk X [] []
  | cons {x : Str} {p : Pos} {i : Nat} {es : List Expr} {is : List Nat} (hi : X.N[i]? = some x) (hx : Loc X.env.scope x) (hf : X.fn x = true ∨ X.env.scope.names.lookup x = some .local) (r : NmsOk X es is) : NmsOk X (.Name x p :: es) (i :: is)
theorem nms_len {X : Cx} : ∀ {es : List Expr} {is : List Nat}, NmsOk X es is → (assignEach es X.env).length = is.length
  | _, _, .nil => rfl
  | _, _, .cons hi hx hf r => by
    show (assignEach _ X.env).length + 1 = _
    rw [nms_len r]
    rfl
theorem nms_star {X : Cx} : ∀ {es : List Expr} {is : List Nat}, NmsOk X es is → ∀ p ∈ assignEach es X.env, p.1 = false
  | _, _, .nil, p, hp => by cases hp
  | _, _, .cons hi hx hf r, p, hp => by
    rcases List.mem_cons.mp hp with z | z
    · rw [z]
    · exact nms_star r p z
def gNs (is : List Nat) : TGs := fun vs σ H Q => vs.length = is.length ∧ Q (setV is vs σ) H
theorem pgs_names {X : Cx} (hN : X.N.Nodup) : ∀ {es : List Expr} {is : List Nat}, NmsOk X es is → PGs X es (gNs is)
  | _, _, .nil => ⟨fun pins s σ H vs us Q I r h => pgs_nil.run pins s σ H vs us Q I r (by
      obtain ⟨h1, h2⟩ := h
      have : vs = [] := List.eq_nil_of_length_eq_zero h1
      subst this
      exact ⟨rfl, h2⟩)⟩
  | _, _, .cons hi hx hf r => ⟨fun pins s σ H vs us Q I rr h => (pgs_cons (pg_name hN hi hx hf) (pgs_names hN r)).run pins s σ H vs us Q I rr (by
      obtain ⟨h1, h2⟩ := h
      cases vs with
      | nil => cases h1
      | cons v vs => exact ⟨v, vs, rfl, by simpa using h1, h2⟩)⟩
theorem pg_tgt {X : Cx} {es : List Expr} {is : List Nat} {k : Nat} {pos : Pos} (hc : X.calm = true) (hN : X.N.Nodup) (h : NmsOk X es is) : PG X (.Tuple es k pos) (tgV X.K (.tp is)) := by
  have hs : (assignEach es X.env).findIdx? (·.1) = none := by
    rw [List.findIdx?_eq_none_iff]
    intro p hp
    exact nms_star h p hp
  refine ⟨fun pins s σ H v u Q I r hh => ?_⟩
  obtain ⟨a, xs, e, h1, h2, h3⟩ := hh
  rcases h1 with h1 | h1
  · exact (pg_tup (n := is.length) hc (pgs_names hN h) (nms_len h) hs).run pins s σ H v u Q I r ⟨a, xs, e, h1, h2, h2, h3⟩
  · exact (pg_unl (n := is.length) hc (pgs_names hN h) (nms_len h) hs).run pins s σ H v u Q I r ⟨a, xs, e, h1, h2, h2, h3⟩
end
end EV

namespace EV
open PySem L2 PySem.Spec PyProof.Rows
/-! ### list comprehensions -/
def Res.noX {α : Type} : Res α → Res α
  | .ok a S => .ok a S
  | _ => .stuck
@[simp] theorem noX_ok {α : Type} (a : α) (S : Sto) : (Res.ok a S).noX = .ok a S := (fun _ => rfl) ()
def lcLoop (tg : Tgt) (t : FT) (e : FE) (ρ : Env) : List D → Sto → Res (List D)
  | [], S => .ok [] S
  | d :: ds, S => match tg.d d ρ with
    | none => .stuck
    | some ρ2 => (t ρ2 S).noX.bind fun b S1 => if b = true then (e ρ2 S1).noX.bind fun y S2 => (lcLoop tg t e ρ ds S2).bind fun ys S3 => .ok (y :: ys) S3 else lcLoop tg t e ρ ds S1
def eLc (fi : FI) (tg : Tgt) (t : FT) (e : FE) (vs : List Nat) : FE := fun ρ S => (fi ρ S).bind fun ds S1 => if sz ds.length = true then (lcLoop tg t e (wipeD ρ vs) ds S1).bind fun out S2 => .ok (.lst out) S2 else .stuck
def tYesF : FT := fun _ S => .ok true S
section
variable {X : Cx} {W : WX}
theorem PTs.weak {X : Cx} {ifs : List Expr} {t t' : TT} (h : PTs X ifs t) (w : ∀ σ H Q, t' σ H Q → t σ H Q) : PTs X ifs t' := ⟨fun pins s σ H Q I q => h.run pins s σ H Q I (w σ H Q q)⟩
theorem sts_nil : PTs X [] (RT X.K W tYesF) := PTs.weak pts_nil fun σ H Q ⟨ι, ρ, S, hS, hE, hp⟩ => hp.ok hS
theorem wipe_set_in {σ : L2.St} {i : Nat} {x : V} : ∀ {vs : List Nat}, i ∈ vs → L2.wipe (σ.set i (some x)) vs = L2.wipe σ vs
  | [], h => by cases h
  | v :: vs, h => by
    unfold L2.wipe
    by_cases hv : i ∈ vs
    · rw [wipe_set_in hv]
    · have e : v = i := by
        rcases List.mem_cons.mp h with z | z
        · exact z.symm
        · exact absurd z hv
      subst e
      have : ∀ (vs : List Nat), v ∉ vs → L2.wipe (σ.set v (some x)) vs = (L2.wipe σ vs).set v (some x) := by
        intro vs
        induction vs with
        | nil => intro _; rfl
        | cons u us ih =>
          intro hu
          simp only [List.mem_cons, not_or] at hu
          show (L2.wipe (σ.set v (some x)) us).set u none = ((L2.wipe σ us).set u none).set v (some x)
          rw [ih hu.2, List.set_comm _ _ hu.1]
      rw [this vs hv, List.set_set]
theorem wipe_setV {σ : L2.St} {vs : List Nat} : ∀ {is : List Nat} {xs : List V}, (∀ i ∈ is, i ∈ vs) → L2.wipe (setV is xs σ) vs = L2.wipe σ vs := by
  intro is
  induction is generalizing σ with
  | nil => intro xs _; cases xs <;> rfl
  | cons i is ih =>
    intro xs h
    cases xs with
    | nil => rfl
    | cons x xs =>
      show L2.wipe (setV is xs (σ.set i (some x))) vs = _
      rw [ih (fun j hj => h j (List.mem_cons_of_mem _ hj)), wipe_set_in (h i List.mem_cons_self)]
theorem wipe_idem {σ : L2.St} {i : Nat} : ∀ {vs : List Nat}, (L2.wipe σ vs).set i none = L2.wipe (σ.set i none) vs
  | [] => rfl
  | v :: vs => by
    show ((L2.wipe σ vs).set v none).set i none = (L2.wipe (σ.set i none) vs).set v none
    rw [← wipe_idem]
    by_cases h : v = i
    · subst h; rfl
    · rw [List.set_comm _ _ h]
theorem set_none_idem (σ : L2.St) (i : Nat) : (σ.set i none).set i none = σ.set i none := by rw [List.set_set]
theorem wipe_wipe (σ : L2.St) : ∀ vs : List Nat, L2.wipe (L2.wipe σ vs) vs = L2.wipe σ vs
  | [] => rfl
  | v :: vs => by
    show (L2.wipe ((L2.wipe σ vs).set v none) vs).set v none = (L2.wipe σ vs).set v none
    rw [← wipe_idem, wipe_wipe σ vs, set_none_idem]
/-- the end of a comprehension: its list, just made, at D -/
def LcEnd (K : PySem.W.Frag) (ι1 : Lay) (H1 : Hp) (Kf : Lay → Hp → List D → Sto → Prop) (Q : VK) : Prop :=
  ∀ (L : Addr) (ι' : Lay) (H' : Hp) (S' : Sto) (acc : List V) (out : List D), H1 L = none → Ext ι1 H1 ι' H' → RelS K ι' H' S' → RelS K (ι'.hide L) H' S' → H' L = some (.lst acc) → L ∉ ι'.st → L ∉ ι'.hid → RelDs K (ι'.hide L) H' out acc → Kf ι' H' out S' → Q (.ref L) H'
def PreLc (K : PySem.W.Frag) (W : WX) (fi : FI) (tg : Tgt) (ft : FT) (fe : FE) (vs : List Nat) (σ : L2.St) (H : Hp) (Q : VK) : Prop :=
  ∃ ι ρ S, RelS K ι H S ∧ RelE K ι H σ ρ ∧ Post K W σ ι H (fi ρ S) fun ι1 H1 ds S1 => sz ds.length = true ∧ ∃ Kf, Post K W σ ι1 H1 (lcLoop tg ft fe (wipeD ρ vs) ds S1) Kf ∧ LcEnd K ι1 H1 Kf Q
theorem lc_weakG {K : PySem.W.Frag} {fi : FI} {tg : Tgt} {ft : FT} {fe : FE} {vs : List Nat} (hin : ∀ i ∈ tg.slots, i ∈ vs) (σ : L2.St) (H : Hp) (Q : VK) (h : PreLc K W fi tg ft fe vs σ H Q) :
    tLc (RI K W fi) (tgV K tg) (RT K W0 ft) (RE K W0 fe) vs σ H Q := by
  obtain ⟨ι, ρ, S, hS, hE, hp⟩ := h
  refine ⟨ι, ρ, S, hS, hE, hp.imp fun ι1 H1 ds S1 e1 s1 p1 J hJ => ?_⟩
  obtain ⟨hsz, Kf, p1, hend⟩ := p1
  intro D hD
  have hE1 := (hE.mono e1).wipe vs
  refine ⟨fun i m H' => m = ds.length - i ∧ i ≤ ds.length ∧ ∃ ι' S' acc out, Ext ι1 H1 ι' H' ∧ RelS K (ι'.hide D) H' S' ∧ H' D = some (.lst acc) ∧ RelDs K (ι'.hide D) H' out acc ∧ acc.length ≤ i ∧
    Post K W σ ι1 H1 ((lcLoop tg ft fe (wipeD ρ vs) (ds.drop i) S').bind fun ys S3 => .ok (out ++ ys) S3) Kf, ?_, ?_⟩
  · refine ⟨ds.length, by simp, Nat.zero_le _, ι1, S1, [], [], ext_new s1 hD, s1.hide hD, upd_same, RelDs.nil, Nat.le_refl _, ?_⟩
    rw [List.drop_zero]
    simp only [List.nil_append]
    cases hl : lcLoop tg ft fe (wipeD ρ vs) ds S1 with
    | ok o So => rw [hl] at p1; exact p1
    | exc x So => rw [hl] at p1; exact p1
    | stuck => rw [hl] at p1; exact p1
  · rintro i m H' ⟨rfl, hi, ι', S', acc, out, ex, rs, hacc, ro, hle, hpost⟩
    have hDst : D ∉ ι'.st := (rs.hd D List.mem_cons_self).1
    have wx : WExt ι1 H1 (ι'.hide D) H' := ⟨ex.pre, fun a o h n => by
      obtain ⟨h1, n1⟩ := ex.keep a o h n.1
      have hne : a ≠ D := ne_of_none h hD
      exact ⟨h1, n1, by simp only [Lay.hide, List.mem_cons, not_or]; exact ⟨hne, by rw [ex.hid]; exact n.2⟩⟩⟩
    obtain ⟨jgo, jstop, jy⟩ := hJ _ _ _ wx rs i
    by_cases hlt : i < ds.length
    · refine .inr ⟨jgo hlt, _, fun H2 h2 => ⟨ds.length - (i + 1), by omega, rfl, hlt, h2⟩, fun x H2 y => ?_⟩
      have hdi : ds[i]? = some ds[i] := by simp [hlt]
      obtain ⟨e2, s2, r2⟩ := jy x H2 _ y hdi
      rw [List.drop_eq_getElem_cons hlt] at hpost
      simp only [lcLoop] at hpost
      cases htg : tg.d ds[i] (wipeD ρ vs) with
      | none => rw [htg] at hpost; exact hpost.elim
      | some ρ2 =>
        rw [htg] at hpost
        simp only at hpost
        have hE2 : RelE K (ι'.hide D) H2 (L2.wipe σ vs) (wipeD ρ vs) := (hE1.wmono wx).mono e2
        refine tgt_ok hE2 r2 htg fun xs hE3 => ⟨by rw [wipe_setV hin, wipe_wipe], ?_⟩
        refine ⟨_, ρ2, S', s2, hE3, ?_⟩
        cases hft : ft ρ2 S' with
        | exc a b => rw [hft] at hpost; exact hpost.elim
        | stuck => rw [hft] at hpost; exact hpost.elim
        | ok b Sb =>
          rw [hft] at hpost
          simp only [noX_ok, bind_ok] at hpost
          intro κ3 H3 e3 s3
          have hDm2 : D ∉ κ3.st := by
            have h0 : H2 D = some (.lst acc) := (e2.keep D _ hacc hDst).1
            exact (e3.keep D _ h0 hDst).2
          have hacc3 : H3 D = some (.lst acc) := (e3.keep D _ (e2.keep D _ hacc hDst).1 hDst).1
          have hk3 : κ3.hid = D :: ι1.hid := by rw [e3.hid]; show D :: ι'.hid = _; rw [ex.hid]
          have exb : ∀ {κ' H''}, Ext κ3 H3 κ' H'' → Ext ι1 H1 ⟨κ'.st, ι1.hid⟩ H'' := fun {κ' H''} e4 => ⟨rfl, ex.pre.trans (e3.pre.trans e4.pre), fun a o h n => by
            obtain ⟨a1, n1⟩ := ex.keep a o h n
            obtain ⟨a2, n2⟩ := e2.keep a o a1 n1
            obtain ⟨a3, n3⟩ := e3.keep a o a2 n2
            exact e4.keep a o a3 n3⟩
          have lay : ∀ {κ' H''}, Ext κ3 H3 κ' H'' → κ' = (Lay.mk κ'.st ι1.hid).hide D := fun {κ' H''} e4 => by
            cases κ' with
            | mk st hid =>
              have : hid = D :: ι1.hid := by rw [← hk3]; exact e4.hid
              simp [Lay.hide, this]
          cases b with
          | false =>
            simp only [Bool.false_eq_true, if_false] at hpost ⊢
            refine ⟨⟨κ3.st, ι1.hid⟩, Sb, acc, out, exb Ext.refl, ?_, hacc3, ?_, by omega, hpost⟩
            · rw [← lay Ext.refl]; exact s3
            · rw [← lay Ext.refl]; exact (ro.mono e2).mono e3
          | true =>
            simp only [if_true] at hpost ⊢
            refine ⟨κ3, ρ2, Sb, s3, hE3.mono e3, ?_⟩
            cases hfe : fe ρ2 Sb with
            | exc a b => rw [hfe] at hpost; exact hpost.elim
            | stuck => rw [hfe] at hpost; exact hpost.elim
            | ok yv Sy =>
              rw [hfe] at hpost
              simp only [noX_ok, bind_ok] at hpost
              intro κ4 H4 e4 s4 v rv
              have hacc4 : H4 D = some (.lst acc) := (e4.keep D _ hacc3 hDm2).1
              refine ⟨acc, hacc4, ?_, ?_⟩
              · have := sz_ok hsz; omega
              · have hDh : D ∈ κ4.hid := by rw [e4.hid, hk3]; exact List.mem_cons_self
                have wx4 : WExt κ4 H4 κ4 (upd H4 D (.lst (acc ++ [v]))) := wext_hid hDh
                have eb := exb e4
                refine ⟨⟨κ4.st, ι1.hid⟩, Sy, acc ++ [v], out ++ [yv], ⟨rfl, eb.pre, fun a o h n => ⟨by rw [upd_ne (ne_of_none h hD)]; exact (eb.keep a o h n).1, (eb.keep a o h n).2⟩⟩, ?_, upd_same, ?_, by simp; omega, ?_⟩
                · rw [← lay e4]; exact s4.hid hDh
                · rw [← lay e4]
                  exact RelDs.wmono wx4 _ _ ((((ro.mono e2).mono e3).mono e4).append (.cons rv .nil))
                · cases hl : lcLoop tg ft fe (wipeD ρ vs) (ds.drop (i + 1)) Sy with
                  | ok o So => rw [hl] at hpost; simpa using hpost
                  | exc x So => rw [hl] at hpost; exact hpost
                  | stuck => rw [hl] at hpost; exact hpost
    · have hi' : i = ds.length := by omega
      subst hi'
      refine .inl ⟨jstop (Nat.le_refl _), ?_⟩
      rw [List.drop_length] at hpost
      simp only [lcLoop, bind_ok, List.append_nil] at hpost
      have hid : D ∉ ι'.hid := by
        rw [ex.hid]
        intro hm
        obtain ⟨_, o, e⟩ := s1.hd D hm
        rw [hD] at e
        cases e
      exact hend D ι' H' S' acc out hD ex rs.shown rs hacc hDst hid ro (hpost.at_ ex rs.shown)
theorem lc_weak {K : PySem.W.Frag} {fi : FI} {tg : Tgt} {ft : FT} {fe : FE} {vs : List Nat} (hin : ∀ i ∈ tg.slots, i ∈ vs) (σ : L2.St) (H : Hp) (Q : VK) (h : RE K W (eLc fi tg ft fe vs) σ H Q) :
    tLc (RI K W fi) (tgV K tg) (RT K W0 ft) (RE K W0 fe) vs σ H Q := by
  obtain ⟨ι, ρ, S, hS, hE, hp⟩ := h
  refine lc_weakG hin σ H Q ⟨ι, ρ, S, hS, hE, (Post.bind hp).imp fun ι1 H1 ds S1 e1 s1 p1 => ?_⟩
  split at p1
  case isFalse => exact p1.elim
  rename_i hsz
  exact ⟨hsz, _, Post.bind p1, fun L ι' H' S' acc out hD ex s' rs hacc n1 n2 ro hk => hk ι' H' Ext.refl s' _ (relD_lst_new ⟨n1, n2⟩ hacc (RelDs.wmono wext_show _ _ ro))⟩
/-- a comprehension whose list is changed later: it goes into the store -/
def eLcM (fi : FI) (tg : Tgt) (t : FT) (e : FE) (vs : List Nat) : FE := fun ρ S => (fi ρ S).bind fun ds S1 => if sz ds.length = true then (lcLoop tg t e (wipeD ρ vs) ds S1).bind fun out S2 => .ok (.loc S2.length) (S2 ++ [.lst out]) else .stuck
theorem wext_add {ι : Lay} {H : Hp} {L : Addr} : WExt (ι.hide L) H (ι.add L) H := ⟨List.prefix_append _ _, fun a o h n => ⟨h, by
  have h1 := n.1
  have h2 := n.2
  simp only [Lay.hide, List.mem_cons, not_or] at h1 h2
  simp only [Lay.ok, Lay.add, List.mem_append, List.mem_singleton, not_or]
  exact ⟨⟨h1, h2.1⟩, h2.2⟩⟩⟩
theorem RelS.toSt {K : PySem.W.Frag} {ι : Lay} {H : Hp} {S : Sto} {L : Addr} {xs : List V} {ds : List D} (rs : RelS K (ι.hide L) H S) (h1 : L ∉ ι.st) (h2 : L ∉ ι.hid) (h3 : H L = some (.lst xs)) (r : RelDs K (ι.hide L) H ds xs) : RelS K (ι.add L) H (S ++ [.lst ds]) := by
  have hl : ι.st.length = S.length := rs.len
  refine ⟨by simp [Lay.add, hl], ?_, fun n c q => ?_, fun a ha => ?_⟩
  · show (ι.st ++ [L]).Nodup
    rw [List.nodup_append]
    exact ⟨rs.nd, by simp, fun a ha b hb => by
      have : b = L := by simpa using hb
      subst this
      exact fun z => h1 (z ▸ ha)⟩
  · by_cases hn : n < S.length
    · rw [List.getElem?_append_left hn] at q
      obtain ⟨a, u, q1, q2, q3⟩ := rs.at_ n c q
      exact ⟨a, u, (wext_add (ι := ι) (H := H) (L := L)).get q1, q2, q3.wmono wext_add⟩
    · have hn2 : n = S.length := by
        have := (List.getElem?_eq_some_iff.mp q).1
        simp at this
        omega
      subst hn2
      simp at q
      subst q
      exact ⟨L, _, by rw [← hl]; simp [Lay.add], h3, xs, rfl, RelDs.wmono wext_add _ _ r⟩
  · obtain ⟨q1, u, q2⟩ := rs.hd a (List.mem_cons_of_mem _ ha)
    refine ⟨?_, u, q2⟩
    simp only [Lay.add, List.mem_append, List.mem_singleton, not_or]
    exact ⟨q1, fun z => h2 (z ▸ ha)⟩
theorem lc_weakM {K : PySem.W.Frag} {fi : FI} {tg : Tgt} {ft : FT} {fe : FE} {vs : List Nat} (hin : ∀ i ∈ tg.slots, i ∈ vs) (σ : L2.St) (H : Hp) (Q : VK) (h : RE K W (eLcM fi tg ft fe vs) σ H Q) :
    tLc (RI K W fi) (tgV K tg) (RT K W0 ft) (RE K W0 fe) vs σ H Q := by
  obtain ⟨ι, ρ, S, hS, hE, hp⟩ := h
  refine lc_weakG hin σ H Q ⟨ι, ρ, S, hS, hE, (Post.bind hp).imp fun ι1 H1 ds S1 e1 s1 p1 => ?_⟩
  split at p1
  case isFalse => exact p1.elim
  rename_i hsz
  refine ⟨hsz, fun _ _ o S2 => ∀ ι2 H2, Ext ι1 H1 ι2 H2 → RelS K ι2 H2 (S2 ++ [.lst o]) → ∀ v, RelD K ι2 H2 (.loc S2.length) v → Q v H2, ?_, fun L ι' H' S' acc out hD ex s' rs hacc n1 n2 ro hk => ?_⟩
  · cases hl : lcLoop tg ft fe (wipeD ρ vs) ds S1 with
    | ok o So => rw [hl] at p1; exact fun _ _ _ _ => p1
    | exc x So => rw [hl] at p1; exact p1
    | stuck => rw [hl] at p1; exact p1
  have ex2 : Ext ι1 H1 (ι'.add L) H' := ⟨ex.hid, ex.pre.trans (List.prefix_append _ _), fun a o h n => by
    obtain ⟨h1, n1⟩ := ex.keep a o h n
    have hne : a ≠ L := ne_of_none h hD
    exact ⟨h1, by simp [Lay.add, n1, hne]⟩⟩
  refine hk _ _ ex2 (rs.toSt n1 n2 hacc ro) _ ?_
  simp only [RelD]
  exact ⟨L, rfl, by rw [← s'.len]; simp [Lay.add]⟩
theorem se_lc {elt tg iter : Expr} {ifs : List Expr} {scope : Scope} {own : List (Str × Nat)} {pos : Pos} {fi : FI} {t : Tgt} {ft : FT} {fe : FE} (hc : X.calm = true) (hN : X.N.Nodup) (hi : PI X tg iter (RI X.K W fi)) (ok : BlkOk X.N X.env.scope scope own)
    (hg : ∀ (s : Shared) (H : Hp) (C : Addr) (cl : List (Str × Addr)) (fp : List Addr), PG (X.blk s H scope (compEnvC scope cl C X.env) fp) tg (tgV X.K t)) (ht : ∀ (s : Shared) (H : Hp) (C : Addr) (cl : List (Str × Addr)) (fp : List Addr), PTs (X.blk s H scope (compEnvC scope cl C X.env) fp) ifs (RT X.K W0 ft))
    (he : ∀ (s : Shared) (H : Hp) (C : Addr) (cl : List (Str × Addr)) (fp : List Addr), PE (X.blk s H scope (compEnvC scope cl C X.env) fp) elt (RE X.K W0 fe)) (hs : ∀ x, foldedSetIterable iter X.env x = pure x) (hin : ∀ i ∈ t.slots, i ∈ own.map (·.2)) :
    PE X (.ListComp elt [⟨tg, iter, ifs, 0⟩] scope pos) (RE X.K W (eLc fi t ft fe (own.map (·.2)))) := PE.weak (pe_lc hc hN hi ok hg ht he hs) (lc_weak hin)
theorem se_lcM {elt tg iter : Expr} {ifs : List Expr} {scope : Scope} {own : List (Str × Nat)} {pos : Pos} {fi : FI} {t : Tgt} {ft : FT} {fe : FE} (hc : X.calm = true) (hN : X.N.Nodup) (hi : PI X tg iter (RI X.K W fi)) (ok : BlkOk X.N X.env.scope scope own)
    (hg : ∀ (s : Shared) (H : Hp) (C : Addr) (cl : List (Str × Addr)) (fp : List Addr), PG (X.blk s H scope (compEnvC scope cl C X.env) fp) tg (tgV X.K t)) (ht : ∀ (s : Shared) (H : Hp) (C : Addr) (cl : List (Str × Addr)) (fp : List Addr), PTs (X.blk s H scope (compEnvC scope cl C X.env) fp) ifs (RT X.K W0 ft))
    (he : ∀ (s : Shared) (H : Hp) (C : Addr) (cl : List (Str × Addr)) (fp : List Addr), PE (X.blk s H scope (compEnvC scope cl C X.env) fp) elt (RE X.K W0 fe)) (hs : ∀ x, foldedSetIterable iter X.env x = pure x) (hin : ∀ i ∈ t.slots, i ∈ own.map (·.2)) :
    PE X (.ListComp elt [⟨tg, iter, ifs, 0⟩] scope pos) (RE X.K W (eLcM fi t ft fe (own.map (·.2)))) := PE.weak (pe_lc hc hN hi ok hg ht he hs) (lc_weakM hin)
end
end EV

namespace EV
open PySem L2 PySem.Spec PyProof.Rows
/-! ### statements -/
inductive FR where
  | nx (ρ : Env) (S : Sto)
  | rt (d : D) (S : Sto)
  | bk (ρ : Env) (S : Sto)
  | ct (ρ : Env) (S : Sto)
  | exc (e : Ex) (ρ : Env) (S : Sto)
  | stuck
abbrev FS := Env → Sto → FR
/-- an expression's result, then a statement's -/
def Res.then {α : Type} (r : Res α) (ρ : Env) (g : α → Sto → FR) : FR := match r with
  | .ok a S => g a S
  | .exc e S => .exc e ρ S
  | .stuck => .stuck
@[simp] theorem then_ok {α : Type} (a : α) (S : Sto) (ρ : Env) (g : α → Sto → FR) : (Res.ok a S).then ρ g = g a S := (fun _ => rfl) ()
@[simp] theorem then_exc {α : Type} (e : Ex) (S : Sto) (ρ : Env) (g : α → Sto → FR) : (Res.exc e S : Res α).then ρ g = .exc e ρ S := (fun _ => rfl) ()
@[simp] theorem then_stuck {α : Type} (ρ : Env) (g : α → Sto → FR) : (Res.stuck : Res α).then ρ g = .stuck := (fun _ => rfl) ()
def FR.seq (r : FR) (g : FS) : FR := match r with
  | .nx ρ S => g ρ S
  | r => r
@[simp] theorem seq_nx (ρ : Env) (S : Sto) (g : FS) : (FR.nx ρ S).seq g = g ρ S := (fun _ => rfl) ()
@[simp] theorem seq_rt (d : D) (S : Sto) (g : FS) : (FR.rt d S).seq g = .rt d S := (fun _ => rfl) ()
@[simp] theorem seq_bk (ρ : Env) (S : Sto) (g : FS) : (FR.bk ρ S).seq g = .bk ρ S := (fun _ => rfl) ()
@[simp] theorem seq_ct (ρ : Env) (S : Sto) (g : FS) : (FR.ct ρ S).seq g = .ct ρ S := (fun _ => rfl) ()
@[simp] theorem seq_exc (e : Ex) (ρ : Env) (S : Sto) (g : FS) : (FR.exc e ρ S).seq g = .exc e ρ S := (fun _ => rfl) ()
@[simp] theorem seq_stuck (g : FS) : FR.stuck.seq g = .stuck := (fun _ => rfl) ()
def PostS (K : PySem.W.Frag) (W : WX) (E : Ends) (ι : Lay) (H : Hp) (r : FR) : Prop := match r with
  | .nx ρ S => ∀ ι' H' σ', Ext ι H ι' H' → RelS K ι' H' S → RelE K ι' H' σ' ρ → E.nx σ' H'
  | .rt d S => ∀ ι' H' v, Ext ι H ι' H' → RelS K ι' H' S → RelD K ι' H' d v → E.rt v H'
  | .bk ρ S => ∀ ι' H' σ', Ext ι H ι' H' → RelS K ι' H' S → RelE K ι' H' σ' ρ → E.bk σ' H'
  | .ct ρ S => ∀ ι' H' σ', Ext ι H ι' H' → RelS K ι' H' S → RelE K ι' H' σ' ρ → E.ct σ' H'
  | .exc e ρ S => ∀ ι' H' σ' c d, Ext ι H ι' H' → RelS K ι' H' S → RelE K ι' H' σ' ρ → RelX K ι' H' c d e → W c d σ' H'
  | .stuck => False
def RS (K : PySem.W.Frag) (W : WX) (f : FS) : TS := fun E σ H => ∃ ι ρ S, RelS K ι H S ∧ RelE K ι H σ ρ ∧ PostS K W E ι H (f ρ S)
section
variable {K : PySem.W.Frag} {W : WX} {E : Ends} {ι ι' : Lay} {H H' : Hp}
theorem PostS.mono {r : FR} (e : Ext ι H ι' H') (h : PostS K W E ι H r) : PostS K W E ι' H' r := by
  cases r with
  | nx ρ S => exact fun a b c x => h a b c (e.trans x)
  | rt ρ S => exact fun a b c x => h a b c (e.trans x)
  | bk ρ S => exact fun a b c x => h a b c (e.trans x)
  | ct ρ S => exact fun a b c x => h a b c (e.trans x)
  | exc x ρ S => exact fun a b c d f x => h a b c d f (e.trans x)
  | stuck => exact h
theorem PostS.then {α : Type} {σ : L2.St} {ρ : Env} {r : Res α} {g : α → Sto → FR} (hE : RelE K ι H σ ρ) (h : PostS K W E ι H (r.then ρ g)) : Post K W σ ι H r fun ι' H' a S' => PostS K W E ι' H' (g a S') := by
  cases r with
  | ok a S => exact fun ι' H' e s => PostS.mono e h
  | exc x S => exact fun ι' H' c d e s r => h ι' H' σ c d e s (hE.mono e) r
  | stuck => exact h
/-- what follows changed -/
theorem PostS.ends {r : FR} {E' : Ends} (h : PostS K W E ι H r) (hn : ∀ ι' H' σ' ρ S, Ext ι H ι' H' → RelS K ι' H' S → RelE K ι' H' σ' ρ → r = .nx ρ S → E.nx σ' H' → E'.nx σ' H') (hr : ∀ v H', E.rt v H' → E'.rt v H') (hb : ∀ σ H', E.bk σ H' → E'.bk σ H') (hc : ∀ σ H', E.ct σ H' → E'.ct σ H') : PostS K W E' ι H r := by
  cases r with
  | nx ρ S => exact fun a b c x y z => hn a b c ρ S x y z rfl (h a b c x y z)
  | rt ρ S => exact fun a b c x y z => hr _ _ (h a b c x y z)
  | bk ρ S => exact fun a b c x y z => hb _ _ (h a b c x y z)
  | ct ρ S => exact fun a b c x y z => hc _ _ (h a b c x y z)
  | exc x ρ S => exact h
  | stuck => exact h
end
section
variable {X : Cx} {W : WX}
theorem PS.weak {st : Stmt} {t t' : TS} (h : PS X st t) (w : ∀ E σ H, t' E σ H → t E σ H) : PS X st t' := ⟨fun pins s σ H E I q => h.run pins s σ H E I (w E σ H q)⟩
theorem PSs.weak {st : List Stmt} {t t' : TS} (h : PSs X st t) (w : ∀ E σ H, t' E σ H → t E σ H) : PSs X st t' := ⟨fun pins s σ H E I q => h.run pins s σ H E I (w E σ H q)⟩
def sNext : FS := fun ρ S => .nx ρ S
def sSeq (f g : FS) : FS := fun ρ S => (f ρ S).seq g
def sRet (a : FE) : FS := fun ρ S => (a ρ S).then ρ fun d S1 => .rt d S1
def sRetN : FS := fun _ S => .rt .non S
def sBrk : FS := fun ρ S => .bk ρ S
def sCnt : FS := fun ρ S => .ct ρ S
def sDrop (a : FE) : FS := fun ρ S => (a ρ S).then ρ fun _ S1 => .nx ρ S1
def sSet (i : Nat) (a : FE) : FS := fun ρ S => (a ρ S).then ρ fun d S1 => .nx (ρ.set i (some d)) S1
def sTup (t : Tgt) (a : FE) : FS := fun ρ S => (a ρ S).then ρ fun d S1 => match t.d d ρ with
  | some ρ' => .nx ρ' S1
  | none => .stuck
def sPar (i j : Nat) (a b : FE) : FS := fun ρ S => (a ρ S).then ρ fun d S1 => (b ρ S1).then ρ fun e S2 => .nx ((ρ.set i (some d)).set j (some e)) S2
def sIf (t : FT) (f g : FS) : FS := fun ρ S => (t ρ S).then ρ fun b S1 => if b = true then f ρ S1 else g ρ S1
def sStuck : FS := fun _ _ => .stuck
theorem ss_nil : PSs X [] (RS X.K W sNext) := PSs.weak pss_nil fun E σ H ⟨ι, ρ, S, hS, hE, hp⟩ => hp ι H σ Ext.refl hS hE
theorem ss_pass {pos : Pos} : PS X (.Pass pos) (RS X.K W sNext) := PS.weak ps_pass fun E σ H ⟨ι, ρ, S, hS, hE, hp⟩ => hp ι H σ Ext.refl hS hE
theorem ss_brk {pos : Pos} : PS X (.Break pos) (RS X.K W sBrk) := PS.weak ps_break fun E σ H ⟨ι, ρ, S, hS, hE, hp⟩ => hp ι H σ Ext.refl hS hE
theorem ss_cnt {pos : Pos} : PS X (.Continue pos) (RS X.K W sCnt) := PS.weak ps_continue fun E σ H ⟨ι, ρ, S, hS, hE, hp⟩ => hp ι H σ Ext.refl hS hE
theorem ss_never {st : Stmt} : PS X st (RS X.K W sStuck) := PS.weak ps_never fun E σ H ⟨ι, ρ, S, hS, hE, hp⟩ => hp
theorem ss_cons {st : Stmt} {rest : List Stmt} {f g : FS} (h1 : PS X st (RS X.K W f)) (h2 : PSs X rest (RS X.K W g)) : PSs X (st :: rest) (RS X.K W (sSeq f g)) := by
  refine PSs.weak (pss_cons h1 h2) fun E σ H ⟨ι, ρ, S, hS, hE, hp⟩ => ⟨ι, ρ, S, hS, hE, ?_⟩
  unfold sSeq at hp
  cases h : f ρ S with
  | nx ρ' S' => rw [h] at hp; exact fun a b c x y z => ⟨a, ρ', S', y, z, PostS.mono x hp⟩
  | rt d S' => rw [h] at hp; exact hp
  | bk ρ' S' => rw [h] at hp; exact hp
  | ct ρ' S' => rw [h] at hp; exact hp
  | exc e ρ' S' => rw [h] at hp; exact hp
  | stuck => rw [h] at hp; exact hp
theorem ss_ret {e : Expr} {pos : Pos} {f : FE} (h : PE X e (RE X.K W f)) : PS X (.Return (some e) pos) (RS X.K W (sRet f)) :=
  PS.weak (ps_ret h) fun E σ H ⟨ι, ρ, S, hS, hE, hp⟩ => ⟨ι, ρ, S, hS, hE, (PostS.then hE hp).imp fun ι1 H1 d S1 e1 s1 p1 v rv => p1 ι1 H1 v Ext.refl s1 rv⟩
theorem ss_retN {pos : Pos} : PS X (.Return none pos) (RS X.K W sRetN) := PS.weak ps_retN fun E σ H ⟨ι, ρ, S, hS, hE, hp⟩ => hp ι H .non Ext.refl hS relD_non
theorem ss_drop {e : Expr} {pos : Pos} {f : FE} (h : PE X e (RE X.K W f)) (hs : swapsWith e none pos.line X.env = pure false) : PS X (.Expr e pos) (RS X.K W (sDrop f)) :=
  PS.weak (ps_expr h hs) fun E σ H ⟨ι, ρ, S, hS, hE, hp⟩ => ⟨ι, ρ, S, hS, hE, (PostS.then hE hp).imp fun ι1 H1 d S1 e1 s1 p1 v rv => p1 ι1 H1 σ Ext.refl s1 (hE.mono e1)⟩
theorem set_weak {i : Nat} {f : FE} (E : Ends) (σ : L2.St) (H : Hp) (h : RS X.K W (sSet i f) E σ H) : tAsg (RE X.K W f) (gName i) E σ H := by
  obtain ⟨ι, ρ, S, hS, hE, hp⟩ := h
  exact ⟨ι, ρ, S, hS, hE, (PostS.then hE hp).imp fun ι1 H1 d S1 e1 s1 p1 v rv => p1 ι1 H1 _ Ext.refl s1 ((hE.mono e1).set rv)⟩
theorem ss_set {i : Nat} {x : Str} {e : Expr} {pos pos' : Pos} {f : FE} (hN : X.N.Nodup) (hi : X.N[i]? = some x) (hx : Loc X.env.scope x) (h : PE X e (RE X.K W f)) (hs : swapsWith e (some (.Name x pos')) pos.line X.env = pure false) (hf : X.fn x = true ∨ X.env.scope.names.lookup x = some .local) :
    PS X (.Assign [.Name x pos'] e pos) (RS X.K W (sSet i f)) := PS.weak (ps_set hN hi hx h hs hf) set_weak
/-- y = [..] -/
theorem ss_setLc {i : Nat} {y : Str} {py : Pos} {elt tg iter : Expr} {ifs : List Expr} {scope : Scope} {own : List (Str × Nat)} {pos spos : Pos} {fi : FI} {t : Tgt} {ft : FT} {fe : FE} (hc : X.calm = true) (hN : X.N.Nodup) (hy : X.N[i]? = some y) (hyl : X.env.scope.names.lookup y = some .local)
    (hsw : swapsWith (.ListComp elt [⟨tg, iter, ifs, 0⟩] scope pos) (some (.Name y py)) spos.line X.env = pure true) (hi : PI X tg iter (RI X.K W fi)) (ok : BlkOk X.N X.env.scope scope own)
    (hg : ∀ (s : Shared) (H : Hp) (C : Addr) (cl : List (Str × Addr)) (fp : List Addr), PG (X.blk s H scope (compEnvC scope cl C X.env) fp) tg (tgV X.K t)) (ht : ∀ (s : Shared) (H : Hp) (C : Addr) (cl : List (Str × Addr)) (fp : List Addr), PTs (X.blk s H scope (compEnvC scope cl C X.env) fp) ifs (RT X.K W0 ft))
    (he : ∀ (s : Shared) (H : Hp) (C : Addr) (cl : List (Str × Addr)) (fp : List Addr), PE (X.blk s H scope (compEnvC scope cl C X.env) fp) elt (RE X.K W0 fe)) (hs : ∀ x, foldedSetIterable iter X.env x = pure x) (hin : ∀ i ∈ t.slots, i ∈ own.map (·.2)) :
    PS X (.Assign [.Name y py] (.ListComp elt [⟨tg, iter, ifs, 0⟩] scope pos) spos) (RS X.K W (sSet i (eLc fi t ft fe (own.map (·.2))))) :=
  PS.weak (ps_setLc hc hN hy hyl hsw hi ok hg ht he hs) fun E σ H ⟨ι, ρ, S, hS, hE, hp⟩ => lc_weak hin σ H _ ⟨ι, ρ, S, hS, hE, (PostS.then hE hp).imp fun ι1 H1 d S1 e1 s1 p1 v rv => p1 ι1 H1 _ Ext.refl s1 ((hE.mono e1).set rv)⟩
/-- .. a list that is changed later -/
theorem ss_setLcM {i : Nat} {y : Str} {py : Pos} {elt tg iter : Expr} {ifs : List Expr} {scope : Scope} {own : List (Str × Nat)} {pos spos : Pos} {fi : FI} {t : Tgt} {ft : FT} {fe : FE} (hc : X.calm = true) (hN : X.N.Nodup) (hy : X.N[i]? = some y) (hyl : X.env.scope.names.lookup y = some .local)
    (hsw : swapsWith (.ListComp elt [⟨tg, iter, ifs, 0⟩] scope pos) (some (.Name y py)) spos.line X.env = pure true) (hi : PI X tg iter (RI X.K W fi)) (ok : BlkOk X.N X.env.scope scope own)
    (hg : ∀ (s : Shared) (H : Hp) (C : Addr) (cl : List (Str × Addr)) (fp : List Addr), PG (X.blk s H scope (compEnvC scope cl C X.env) fp) tg (tgV X.K t)) (ht : ∀ (s : Shared) (H : Hp) (C : Addr) (cl : List (Str × Addr)) (fp : List Addr), PTs (X.blk s H scope (compEnvC scope cl C X.env) fp) ifs (RT X.K W0 ft))
    (he : ∀ (s : Shared) (H : Hp) (C : Addr) (cl : List (Str × Addr)) (fp : List Addr), PE (X.blk s H scope (compEnvC scope cl C X.env) fp) elt (RE X.K W0 fe)) (hs : ∀ x, foldedSetIterable iter X.env x = pure x) (hin : ∀ i ∈ t.slots, i ∈ own.map (·.2)) :
    PS X (.Assign [.Name y py] (.ListComp elt [⟨tg, iter, ifs, 0⟩] scope pos) spos) (RS X.K W (sSet i (eLcM fi t ft fe (own.map (·.2))))) :=
  PS.weak (ps_setLc hc hN hy hyl hsw hi ok hg ht he hs) fun E σ H ⟨ι, ρ, S, hS, hE, hp⟩ => lc_weakM hin σ H _ ⟨ι, ρ, S, hS, hE, (PostS.then hE hp).imp fun ι1 H1 d S1 e1 s1 p1 v rv => p1 ι1 H1 _ Ext.refl s1 ((hE.mono e1).set rv)⟩
theorem ss_tup {es : List Expr} {is : List Nat} {k : Nat} {e : Expr} {pos pos' : Pos} {f : FE} (hg : PG X (.Tuple es k pos') (tgV X.K (.tp is))) (h : PE X e (RE X.K W f)) (hs : swapsWithSole [.Tuple es k pos'] e pos.line X.env = pure false) (hw : swappedStores [.Tuple es k pos'] e X.env = pure none) :
    PS X (.Assign [.Tuple es k pos'] e pos) (RS X.K W (sTup (.tp is) f)) := by
  refine PS.weak (ps_asg h hg hs hw) fun E σ H ⟨ι, ρ, S, hS, hE, hp⟩ => ⟨ι, ρ, S, hS, hE, (PostS.then hE hp).imp fun ι1 H1 d S1 e1 s1 p1 v rv => ?_⟩
  cases hg : (Tgt.tp is).d d ρ with
  | none => rw [hg] at p1; exact p1.elim
  | some ρ' =>
    rw [hg] at p1
    exact tgt_ok (hE.mono e1) rv hg fun xs hE2 => p1 ι1 H1 _ Ext.refl s1 hE2
theorem ss_par {i j : Nat} {x y : Str} {a b : Expr} {px py pt pos : Pos} {kt k2 : Nat} {pt2 : Pos} {fa fb : FE} (hc : X.calm = true) (hN : X.N.Nodup) (hi : X.N[i]? = some x) (hj : X.N[j]? = some y) (hij : i ≠ j)
    (hx : X.env.scope.names.lookup x = some .local) (hy : X.env.scope.names.lookup y = some .local) (ha : PE X a (RE X.K W fa)) (hb : PE X b (RE X.K W fb)) (hsa : starEach (a :: [b]) X.env = (false, eval a X.env) :: starEach [b] X.env) (hsb : starEach (b :: []) X.env = (false, eval b X.env) :: starEach [] X.env)
    (hw : swappedStores [.Tuple [.Name x px, .Name y py] kt pt] (.Tuple [a, b] k2 pt2) X.env = pure (some [x, y])) (hs : swapsWithSole [.Tuple [.Name x px, .Name y py] kt pt] (.Tuple [a, b] k2 pt2) pos.line X.env = pure false) :
    PS X (.Assign [.Tuple [.Name x px, .Name y py] kt pt] (.Tuple [a, b] k2 pt2) pos) (RS X.K W (sPar i j fa fb)) := by
  refine PS.weak (ps_par hc hN hi hj hij hx hy (pa_cons ha (pa_cons hb pa_nil hsb) hsa) hw hs) fun E σ H ⟨ι, ρ, S, hS, hE, hp⟩ => ⟨ι, ρ, S, hS, hE, (PostS.then hE hp).imp fun ι1 H1 d S1 e1 s1 p1 v rv => ?_⟩
  refine ⟨ι1, ρ, S1, s1, hE.mono e1, (PostS.then (hE.mono e1) p1).imp fun ι2 H2 d2 S2 e2 s2 p2 w rw' => ?_⟩
  exact ⟨v, w, rfl, p2 ι2 H2 _ Ext.refl s2 (((hE.mono (e1.trans e2)).set (rv.mono e2)).set rw')⟩
theorem ss_if {c : Expr} {a b : List Stmt} {pos : Pos} {t : FT} {f g : FS} (hc : PT X c (RT X.K W t)) (ha : PSs X a (RS X.K W f)) (hb : PSs X b (RS X.K W g)) : PS X (.If c a b pos) (RS X.K W (sIf t f g)) := by
  refine PS.weak (ps_if hc ha hb) fun E σ H ⟨ι, ρ, S, hS, hE, hp⟩ => ⟨ι, ρ, S, hS, hE, (PostS.then hE hp).imp fun ι1 H1 k S1 e1 s1 p1 => ?_⟩
  cases k with
  | true => exact ⟨ι1, ρ, S1, s1, hE.mono e1, p1⟩
  | false => exact ⟨ι1, ρ, S1, s1, hE.mono e1, p1⟩
/-- loops -/
def forLoop (t : Tgt) (f : FS) : List D → Env → Sto → FR
  | [], ρ, S => .nx ρ S
  | d :: ds, ρ, S => match t.d d ρ with
    | none => .stuck
    | some ρ1 => match f ρ1 S with
      | .nx ρ2 S2 => forLoop t f ds ρ2 S2
      | .ct ρ2 S2 => forLoop t f ds ρ2 S2
      | .bk ρ2 S2 => .nx ρ2 S2
      | r => r
def sFor (fi : FI) (t : Tgt) (f : FS) : FS := fun ρ S => (fi ρ S).then ρ fun ds S1 => forLoop t f ds ρ S1
theorem ss_for {tg iter : Expr} {body : List Stmt} {pos : Pos} {fi : FI} {t : Tgt} {f : FS} (hp : PassesOwn (model X.prog X.w) X.A X.env X.xe) (hc : X.calm = true) (hi : PI X tg iter (RI X.K W fi)) (hg : PG X tg (tgV X.K t)) (hb : PSs X body (RS X.K W f)) (hs : ∀ x, foldedSetIterable iter X.env x = pure x) :
    PS X (.For tg iter body [] pos) (RS X.K W (sFor fi t f)) := by
  refine PS.weak (ps_for hp hc hi hg hb hs) fun E σ H ⟨ι, ρ, S, hS, hE, hp⟩ => ⟨ι, ρ, S, hS, hE, (PostS.then hE hp).imp fun ι1 H1 ds S1 e1 s1 p1 J hJ => ?_⟩
  refine ⟨fun i m σ' H' => m = ds.length - i ∧ i ≤ ds.length ∧ ∃ ι' ρ' S', Ext ι1 H1 ι' H' ∧ RelS X.K ι' H' S' ∧ RelE X.K ι' H' σ' ρ' ∧ PostS X.K W E ι' H' (forLoop t f (ds.drop i) ρ' S'), ⟨ds.length, by simp, Nat.zero_le _, ι1, ρ, S1, Ext.refl, s1, hE.mono e1, by rw [List.drop_zero]; exact p1⟩, ?_⟩
  rintro i m σ' H' ⟨rfl, hi, ι', ρ', S', ex, rs, re, hpost⟩
  obtain ⟨jgo, jstop, jy⟩ := hJ _ _ _ ex.w rs i
  by_cases hlt : i < ds.length
  · refine .inr ⟨jgo hlt, _, fun σ2 H2 h2 => ⟨ds.length - (i + 1), by omega, rfl, hlt, h2⟩, fun x H2 y => ?_⟩
    obtain ⟨e2, s2, r2⟩ := jy x H2 ds[i] y (by simp [hlt])
    rw [List.drop_eq_getElem_cons hlt] at hpost
    simp only [forLoop] at hpost
    cases htg : t.d ds[i] ρ' with
    | none => rw [htg] at hpost; exact hpost.elim
    | some ρ1 =>
      rw [htg] at hpost
      simp only at hpost
      refine tgt_ok (re.mono e2) r2 htg fun xs hE3 => ⟨_, ρ1, S', s2, hE3, ?_⟩
      cases hf : f ρ1 S' with
      | nx ρ2 S2 => rw [hf] at hpost; exact fun a b c x y z => ⟨a, ρ2, S2, ex.trans (e2.trans x), y, z, PostS.mono (e2.trans x) hpost⟩
      | ct ρ2 S2 => rw [hf] at hpost; exact fun a b c x y z => ⟨a, ρ2, S2, ex.trans (e2.trans x), y, z, PostS.mono (e2.trans x) hpost⟩
      | bk ρ2 S2 => rw [hf] at hpost; exact fun a b c x y z => hpost a b c (e2.trans x) y z
      | rt d S2 => rw [hf] at hpost; exact PostS.mono e2 hpost
      | exc e ρ2 S2 => rw [hf] at hpost; exact PostS.mono e2 hpost
      | stuck => rw [hf] at hpost; exact hpost
  · have hi' : i = ds.length := by omega
    subst hi'
    rw [List.drop_length] at hpost
    exact .inl ⟨jstop (Nat.le_refl _), hpost ι' H' σ' Ext.refl rs re⟩
def whLoop (t : FT) (f : FS) : Nat → Env → Sto → FR
  | 0, _, _ => .stuck
  | n + 1, ρ, S => (t ρ S).then ρ fun b S1 => if b = true then (match f ρ S1 with
      | .nx ρ2 S2 => whLoop t f n ρ2 S2
      | .ct ρ2 S2 => whLoop t f n ρ2 S2
      | .bk ρ2 S2 => .nx ρ2 S2
      | r => r) else .nx ρ S1
/-- the turns that are told: as many as one likes -/
def wN : Nat := 1000000000000
def sWhile (t : FT) (f : FS) : FS := fun ρ S => whLoop t f wN ρ S
theorem ss_while {c : Expr} {body : List Stmt} {pos : Pos} {t : FT} {f : FS} (hp : PassesOwn (model X.prog X.w) X.A X.env X.xe) (hc : PT X c (RT X.K W t)) (hb : PSs X body (RS X.K W f)) : PS X (.While c body [] pos) (RS X.K W (sWhile t f)) := by
  refine PS.weak (ps_while hp hc hb) fun E σ H ⟨ι, ρ, S, hS, hE, hp⟩ => ?_
  refine ⟨fun m σ' H' => ∃ ι' ρ' S', RelS X.K ι' H' S' ∧ RelE X.K ι' H' σ' ρ' ∧ PostS X.K W E ι' H' (whLoop t f m ρ' S'), ⟨wN, ι, ρ, S, hS, hE, hp⟩, ?_⟩
  rintro m σ' H' ⟨ι', ρ', S', rs, re, hpost⟩
  cases m with
  | zero => exact hpost.elim
  | succ m =>
    simp only [whLoop] at hpost
    refine ⟨ι', ρ', S', rs, re, (PostS.then re hpost).imp fun ι1 H1 k S1 e1 s1 p1 => ?_⟩
    cases k with
    | true =>
      simp only [if_true] at p1 ⊢
      refine ⟨_, fun σ2 H2 h2 => ⟨m, Nat.lt_succ_self m, h2⟩, ι1, ρ', S1, s1, re.mono e1, ?_⟩
      cases hf : f ρ' S1 with
      | nx ρ2 S2 => rw [hf] at p1; exact fun a b c x y z => ⟨a, ρ2, S2, y, z, PostS.mono x p1⟩
      | ct ρ2 S2 => rw [hf] at p1; exact fun a b c x y z => ⟨a, ρ2, S2, y, z, PostS.mono x p1⟩
      | bk ρ2 S2 => rw [hf] at p1; exact p1
      | rt d S2 => rw [hf] at p1; exact p1
      | exc e ρ2 S2 => rw [hf] at p1; exact p1
      | stuck => rw [hf] at p1; exact p1
    | false =>
      simp only [Bool.false_eq_true, if_false] at p1 ⊢
      exact p1 ι1 H1 σ' Ext.refl s1 (re.mono e1)
/-- xs[i] = e, xs a list of the store -/
def putAt (S : Sto) (o i v : D) : Option Sto := match o, i with
  | .loc n, .int k => match S[n]? with
    | some (.lst ds) => (ixN ds.length k).map fun j => S.set n (.lst (ds.set j v))
    | none => none
  | _, _ => none
def sPut (o i a : FE) : FS := fun ρ S => (a ρ S).then ρ fun v S1 => (o ρ S1).then ρ fun od S2 => (i ρ S2).then ρ fun id S3 => match putAt S3 od id v with
  | some S4 => .nx ρ S4
  | none => .stuck
theorem ss_put {o i e : Expr} {pos pos' : Pos} {fo fi fe : FE} (he : PE X e (RE X.K W fe)) (ho : PE X o (RE X.K W fo)) (hi : PE X i (RE X.K W fi)) (hp : PG X (.Subscript o i pos') (gSub (RE X.K W fo) (RE X.K W fi) rSetL)) (hs : swapsWithSole [.Subscript o i pos'] e pos.line X.env = pure false) (hw : swappedStores [.Subscript o i pos'] e X.env = pure none) :
    PS X (.Assign [.Subscript o i pos'] e pos) (RS X.K W (sPut fo fi fe)) := by
  refine PS.weak (ps_asg he hp hs hw) fun E σ H ⟨ι, ρ, S, hS, hE, hp⟩ => ⟨ι, ρ, S, hS, hE, (PostS.then hE hp).imp fun ι1 H1 v S1 e1 s1 p1 x rx => ?_⟩
  refine ⟨ι1, ρ, S1, s1, hE.mono e1, (PostS.then (hE.mono e1) p1).imp fun ι2 H2 od S2 e2 s2 p2 y ry => ?_⟩
  refine ⟨ι2, ρ, S2, s2, hE.mono (e1.trans e2), (PostS.then (hE.mono (e1.trans e2)) p2).imp fun ι3 H3 idd S3 e3 s3 p3 z rz => ?_⟩
  cases h : putAt S3 od idd v with
  | none => rw [h] at p3; exact p3.elim
  | some S4 =>
    rw [h] at p3
    unfold putAt at h
    split at h
    · rename_i n k
      split at h
      · rename_i ds hn
        cases hj : ixN ds.length k with
        | none => rw [hj] at h; cases h
        | some j =>
          rw [hj] at h
          cases h
          have ry3 := ry.mono e3
          simp only [RelD] at ry3 rz
          obtain ⟨a, rfl, ha⟩ := ry3
          subst rz
          obtain ⟨a', o', q1, q2, xs, rfl, r⟩ := s3.at_ n _ hn
          rw [ha] at q1
          cases q1
          refine ⟨a, xs, k, j, rfl, rfl, q2, by rw [r.length]; exact hj, ?_⟩
          have rx3 := (rx.mono e2).mono e3
          exact p3 ι3 _ σ (ext_write s3 ha) (s3.write ha ⟨_, rfl, r.set j rx3⟩) ((hE.mono ((e1.trans e2).trans e3)).mono (ext_write s3 ha))
      · cases h
    · cases h
/-- x op= e of ints -/
def sAug (i : Nat) (g : Int → Int → Int) (a : FE) : FS := fun ρ S => match ρ[i]? with
  | some (some (.int m)) => (a ρ S).then ρ fun d S1 => match d with
    | .int n => .nx (ρ.set i (some (.int (g m n)))) S1
    | _ => .stuck
  | _ => .stuck
theorem ss_aug {i : Nat} {x : Str} {e : Expr} {op : Operator} {pos pos' : Pos} {g : Int → Int → Int} {f : FE} (hN : X.N.Nodup) (hi : X.N[i]? = some x) (hx : Loc X.env.scope x) (h : PE X e (RE X.K W f)) (ho : PIp X op (ipI g)) (hf : X.fn x = true ∨ X.env.scope.names.lookup x = some .local) :
    PS X (.AugAssign (.Name x pos') op e pos) (RS X.K W (sAug i g f)) := by
  refine PS.weak (ps_aug hN hi hx h ho hf) fun E σ H ⟨ι, ρ, S, hS, hE, hp⟩ => ?_
  unfold sAug at hp
  split at hp
  · rename_i m hm
    obtain ⟨v, ev, r1⟩ := hE.at_ i _ hm
    refine ⟨v, ev, ι, ρ, S, hS, hE, (PostS.then hE hp).imp fun ι1 H1 d S1 e1 s1 p1 w rw' => ?_⟩
    simp only [RelD] at r1
    subst r1
    split at p1
    · simp only [RelD] at rw'
      subst rw'
      exact ⟨_, _, rfl, rfl, p1 ι1 H1 _ Ext.refl s1 ((hE.mono e1).set (relD_int _))⟩
    · exact p1.elim
  · exact hp.elim
end
end EV

namespace EV
open PySem L2 PySem.Spec PyProof.Rows
/-! ### tuple * int, any number of times -/
theorem tupMul_same (l : Addr) (its : Array Value) (n : Nat) (dd : Option Addr) (sl : Array (Option Value)) (x : Int) (u : Tok) (c0 : (decide (x < -(2 ^ 63)) || decide (x ≥ 2 ^ 63)) = false) (c1 : (its.isEmpty || x == 1) = true) :
    Meets (Builtin.«tuple.__mul__» ⟨[.ref l, .int x u], []⟩) (fun _ R s => s.heap.get? l = some { cls := .type "tuple", dict := dd, data := .seq its n, slots := sl } ∧ R (.ok (.ret (Value.ref l))) s) :=
  .of_wp fun prog w A R s h => by
    obtain ⟨hp, g, d, tk, os⟩ := s
    obtain ⟨hl, h⟩ := h
    have f1 := AutoSeq1.idx_int
    wp_walk using wpAny_loadPart' hl
    repeat (first
      | (refine wpAny_ite_false (decide_eq_false (by rw [c0]; exact Bool.false_ne_true)) ?_; wp_walk using wpAny_loadPart' hl)
      | (refine wpAny_ite_true (decide_eq_true c1) ?_; wp_walk using wpAny_loadPart' hl))
    all_goals exact ⟨_, rfl, h⟩
theorem tupMul_zero (l : Addr) (its : Array Value) (n : Nat) (dd : Option Addr) (sl : Array (Option Value)) (x : Int) (u : Tok) (c0 : (decide (x < -(2 ^ 63)) || decide (x ≥ 2 ^ 63)) = false) (c1 : (its.isEmpty || x == 1) = false) (c2 : (decide (x ≤ 0) || its.isEmpty) = true) :
    Meets (Builtin.«tuple.__mul__» ⟨[.ref l, .int x u], []⟩) (fun _ R s => s.heap.get? l = some { cls := .type "tuple", dict := dd, data := .seq its n, slots := sl } ∧
      R (.ok (.ret (Value.ref s.heap.objs.size))) { s with heap := s.heap.push { cls := Value.type "tuple", data := Data.seq #[] }, toks := s.toks }) :=
  .of_wp fun prog w A R s h => by
    obtain ⟨hp, g, d, tk, os⟩ := s
    obtain ⟨hl, h⟩ := h
    have f1 := AutoSeq1.idx_int
    wp_walk using wpAny_loadPart' hl
    repeat (first
      | (refine wpAny_ite_false (decide_eq_false (by rw [c0]; exact Bool.false_ne_true)) ?_; wp_walk using wpAny_loadPart' hl)
      | (refine wpAny_ite_false (decide_eq_false (by rw [c1]; exact Bool.false_ne_true)) ?_; wp_walk using wpAny_loadPart' hl)
      | (refine wpAny_ite_true (decide_eq_true c2) ?_; wp_walk using wpAny_loadPart' hl))
    all_goals exact ⟨_, rfl, h⟩
def rRepA (K : PySem.W.Frag) : R2 := fun x y H Q => ∃ l k xs, x = .ref l ∧ y = .int k ∧ SqT K H l xs ∧ -(2 ^ 62) ≤ k ∧ k < 2 ^ 62 ∧ xs.length * k.toNat ≤ sizeLine ∧ ((xs = [] ∨ k = 1) → Q (.ref l) H) ∧
  ∀ p, H p = none → Q (.ref p) (upd H p (.tup (List.replicate k.toNat xs).flatten))
theorem op_repA {X : Cx} : OpR X (binaryOp .Mult) (rRepA X.K) := by
  intro pins s σ H x y v u Q I rx ry h
  obtain ⟨l, k, xs, rfl, rfl, hT, h1, h2, hz, q0, q⟩ := h
  cases rx
  obtain ⟨t, rfl⟩ := ry
  obtain ⟨its, r, ⟨⟨cls, dd, data, sl⟩, ho, hc, n, hd⟩, hs⟩ := I.tuple hT
  simp only at hc hd
  subst hc hd
  have hle : its.length = xs.length := r.length.symm
  have c0 : (decide (k < -(2 ^ 63)) || decide (k ≥ 2 ^ 63)) = false := by
    rw [decide_eq_false (by omega), decide_eq_false (by omega)] <;> rfl
  by_cases hsame : its.toArray.isEmpty = true ∨ k = 1
  · have c1 : (its.toArray.isEmpty || k == 1) = true := by
      rcases hsame with z | z
      · rw [z]; rfl
      · rw [z]; simp
    have hq : xs = [] ∨ k = 1 := by
      rcases hsame with z | z
      · left
        have : its = [] := by simpa using z
        rw [this] at hle
        exact List.eq_nil_of_length_eq_zero hle.symm
      · exact .inr z
    refine wpAny_binaryOp_repeat_ref (T := "tuple") (U := "int") (by decide) ⟨_, ho, rfl⟩ (fun s' => typeIs_int s' k t) noFill_tuple_mul F.fills_int_mul F.slot_int_rmul repeat_tuple F.slot_int_index.lookup
      (call_meets F.slot_int_rmul (typeIs_int s k t) F.entry_int_rmul (F.args_int_rmul_2 _ _) (int_rmul_tuple k t l its.toArray n dd sl)
        ⟨ho, rfl, ⟨_, ho, rfl⟩, call_meets F.slot_tuple_mul ⟨_, ho, rfl⟩ F.entry_tuple_mul (F.args_tuple_mul_2 _ _) (tupMul_same l its.toArray n dd sl k t c0 c1) ⟨ho, ?_⟩⟩)
    exact ⟨.ref l, H, I, rfl, q0 hq⟩
  · have hne : ¬ its.toArray.isEmpty = true := fun z => hsame (.inl z)
    have hk1 : k ≠ 1 := fun z => hsame (.inr z)
    have c1 : (its.toArray.isEmpty || k == 1) = false := by
      rw [Bool.eq_false_iff.mpr hne, Bool.false_or]
      exact beq_eq_false_iff_ne.mpr hk1
    by_cases hk0 : k ≤ 0
    · have c2 : (decide (k ≤ 0) || its.toArray.isEmpty) = true := by rw [decide_eq_true hk0]; rfl
      refine wpAny_binaryOp_repeat_ref (T := "tuple") (U := "int") (by decide) ⟨_, ho, rfl⟩ (fun s' => typeIs_int s' k t) noFill_tuple_mul F.fills_int_mul F.slot_int_rmul repeat_tuple F.slot_int_index.lookup
        (call_meets F.slot_int_rmul (typeIs_int s k t) F.entry_int_rmul (F.args_int_rmul_2 _ _) (int_rmul_tuple k t l its.toArray n dd sl)
          ⟨ho, rfl, ⟨_, ho, rfl⟩, call_meets F.slot_tuple_mul ⟨_, ho, rfl⟩ F.entry_tuple_mul (F.args_tuple_mul_2 _ _) (tupMul_zero l its.toArray n dd sl k t c0 c1 c2) ⟨ho, ?_⟩⟩)
      have hz0 : k.toNat = 0 := by omega
      have q1 := q s.heap.objs.size (I.hok.fresh (Nat.le_refl _))
      rw [hz0] at q1
      refine ⟨.ref s.heap.objs.size, _, I.laid (t' := s.toks) (o := .tup []) (fun b ob qq => Heap.get?_push_of_some _ qq) (Nat.le_refl _) ?_, rfl, q1⟩
      exact ⟨by rw [sizeLine_eq]; decide, [], .nil, IsTup.new _ _⟩
    · have c2 : (decide (k ≤ 0) || its.toArray.isEmpty) = false := by
        rw [Bool.eq_false_iff.mpr hne, Bool.or_false]
        exact decide_eq_false hk0
      have hsz0 : its.toArray.size = xs.length := by rw [List.size_toArray, hle]
      have hm : ((its.toArray.size : Nat) : Int) * k ≤ (sizeLine : Int) := by
        rw [hsz0]
        have : ((xs.length * k.toNat : Nat) : Int) ≤ (sizeLine : Int) := by exact_mod_cast hz
        rw [Int.natCast_mul, Int.toNat_of_nonneg (by omega)] at this
        exact this
      have flen : (List.replicate k.toNat its).flatten.length ≤ sizeLine := by
        rw [PyProof.Rows.lm_len_rep_flat, hle, Nat.mul_comm]
        exact hz
      have c4 : Builtin.Tuple.tupleTooMany (((its.toArray.size : Nat) : Int) * k) = false := by
        unfold Builtin.Tuple.tupleTooMany
        exact decide_eq_false (by omega)
      have c3 : ¬ ((its.toArray.size : Nat) : Int) * k > (2 ^ 63 - 1) / 8 := by
        rw [sizeLine_eq] at hm
        omega
      refine wpAny_binaryOp_repeat_ref (T := "tuple") (U := "int") (by decide) ⟨_, ho, rfl⟩ (fun s' => typeIs_int s' k t) noFill_tuple_mul F.fills_int_mul F.slot_int_rmul repeat_tuple F.slot_int_index.lookup
        (call_meets F.slot_int_rmul (typeIs_int s k t) F.entry_int_rmul (F.args_int_rmul_2 _ _) (int_rmul_tuple k t l its.toArray n dd sl)
          ⟨ho, rfl, ⟨_, ho, rfl⟩, call_meets F.slot_tuple_mul ⟨_, ho, rfl⟩ F.entry_tuple_mul (F.args_tuple_mul_2 _ _) (tuple_mulW l its.toArray n dd sl k t c0 c1 c2 c3 c4 (by rw [size_rep, List.size_toArray]; exact flen)) ⟨ho, ?_⟩⟩)
      rw [size_rep]
      refine ⟨.ref s.heap.objs.size, _, I.laid (t' := s.toks) (o := .tup (List.replicate k.toNat xs).flatten) (fun b ob qq => Heap.get?_push_of_some _ qq) (Nat.le_refl _) ?_, rfl, q _ (I.hok.fresh (Nat.le_refl _))⟩
      exact ⟨by rw [PyProof.Rows.lm_len_rep_flat, Nat.mul_comm]; exact hz, _, r.rep k.toNat, IsTup.new _ _⟩
def gRepA : G2 := fun _ d e => match d, e with
  | .tup x, .int k => if (decide (-(2 ^ 62) ≤ k) && decide (k < 2 ^ 62) && sz (x.length * k.toNat)) = true then some (.tup (List.replicate k.toNat x).flatten) else none
  | _, _ => none
theorem og_repA {X : Cx} : OpG X (binaryOp .Mult) gRepA := by
  refine ⟨_, op_repA, fun ι H S x y d e z Q hS rx ry hz k => ?_⟩
  unfold gRepA at hz
  split at hz
  · rename_i ds n
    simp only [RelD] at rx ry
    obtain ⟨a, xs, rfl, qa, ra⟩ := rx
    subst ry
    split at hz
    · rename_i h
      simp only [Bool.and_eq_true, decide_eq_true_eq] at h
      cases hz
      refine ⟨a, n, xs, rfl, rfl, sqT_of qa, h.1.1, h.1.2, by rw [ra.length]; exact sz_ok h.2, fun hh => ?_, fun p hp => new_tup hS (ra.rep _) k p hp⟩
      refine k H _ Ext.refl hS ?_
      have e1 : (List.replicate n.toNat ds).flatten = ds := by
        rcases hh with z | z
        · have : ds = [] := List.eq_nil_of_length_eq_zero (by rw [← ra.length, z]; rfl)
          subst this
          simp
        · subst z
          simp
      rw [e1]
      simp only [RelD]
      exact ⟨a, xs, rfl, qa, ra⟩
    · cases hz
  · cases hz
end EV

namespace EV
open PySem L2 PySem.Spec PyProof.Rows
/-! ### repr -/
def box : PyData → Bool
  | .list _ => true
  | .tuple _ => true
  | _ => false
def reprD (p : PyData) : Option Str := match p with
  | .int i => if i.natAbs.log2 < 1920 then some (toString i) else none
  | .str x => if sz (reprText x).length = true then some (reprText x) else none
  | .bool b => some (if b then "True" else "False")
  | .none => some "None"
  | p => if (box p && p.showable && !p.hasDict && decide (p.depth ≤ 100) && sz p.shown.length) = true then some p.shown else none
def gRepr : GC := fun S ds => match ds with
  | [d] => ((toPL S d).bind reprD).map .str
  | _ => none
def rRepr (K : PySem.W.Frag) : List V → Hp → VK → Prop := fun vs H Q => ∃ v p x, vs = [v] ∧ Dp K H v p ∧ reprD p = some x ∧ Q (.str x) H
theorem cr_repr {X : Cx} (hg : X.A.guards = some []) (hu : X.A.units + 128 < cLine) : CallR X (.builtin "repr") (rRepr X.K) := by
  intro pins s σ H xs us Q I r h
  obtain ⟨v, p, x, rfl, hp, hx, q⟩ := h
  obtain ⟨u, rfl, hr⟩ := vals1 r
  have gen : (if (box p && p.showable && !p.hasDict && decide (p.depth ≤ 100) && sz p.shown.length) = true then some p.shown else none) = some x → (∃ a, u = .ref a) → wpAny (model X.prog X.w) X.A (call (.builtin "repr") [u]) (EP X pins σ Q) X.xe s := fun hif ⟨a, ea⟩ => by
    subst ea
    split at hif
    · rename_i hc
      cases hif
      simp only [Bool.and_eq_true, Bool.not_eq_true', decide_eq_true_eq] at hc
      obtain ⟨⟨⟨⟨c0, c1⟩, c2⟩, c3⟩, c4⟩ := hc
      obtain ⟨as, hR⟩ := Dp.reads I p v _ hp hr
      exact repr_of_reads' hR c1 (fun z => by rw [c2] at z; cases z) hg (by omega) (fun b o e => e) (fun h' u' tk hk => ⟨.str p.shown, H, I.kept (t' := tk) hk, ⟨_, rfl⟩, q⟩) (sz_ok c4)
    · cases hif
  cases hp with
  | non =>
    cases hr
    cases hx
    exact PySem.P.repr_of_none ⟨.str _, H, I.tok _, ⟨_, rfl⟩, q⟩
  | bl b =>
    cases hr
    cases hx
    exact PySem.P.repr_of_bool ⟨.str _, H, I.tok _, ⟨_, rfl⟩, q⟩
  | int i =>
    obtain ⟨t, rfl⟩ := hr
    simp only [reprD] at hx
    split at hx
    · rename_i hz
      cases hx
      exact PySem.P.repr_of_int hz ⟨.str _, H, I.tok _, ⟨_, rfl⟩, q⟩
    · cases hx
  | str z =>
    obtain ⟨t, rfl⟩ := hr
    simp only [reprD] at hx
    split at hx
    · rename_i hz
      cases hx
      exact PySem.P.repr_of_str ⟨.str _, H, I.tok _, ⟨_, rfl⟩, q⟩ (sz_ok hz)
    · cases hx
  | tup h1 h2 => exact gen hx ⟨_, hr⟩
  | lst h1 h2 => exact gen hx ⟨_, hr⟩
theorem cg_repr {X : Cx} (hg : X.A.guards = some []) (hu : X.A.units + 128 < cLine) : CalG X (.builtin "repr") gRepr := by
  refine ⟨_, cr_repr hg hu, fun ι H S xs ds z Q hS rx hz k => ?_⟩
  unfold gRepr at hz
  split at hz
  · rename_i d
    obtain ⟨x, rfl, r1⟩ := rx.inv1
    cases hp : toPL S d with
    | none => rw [hp] at hz; cases hz
    | some p =>
      rw [hp] at hz
      simp only [Option.bind_some] at hz
      cases hq : reprD p with
      | none => rw [hq] at hz; cases hz
      | some y =>
        rw [hq] at hz
        cases hz
        exact ⟨x, p, y, rfl, toPL_dp hS r1 hp, hq, k H _ Ext.refl hS (relD_str _)⟩
  · cases hz
/-- texts, whatever their signs -/
def gEqS (f : Bool → Bool) : G2 := fun _ d e => match d, e with
  | .str x, .str y => some (.bl (f (decide (x = y))))
  | _, _ => none
theorem og_eqS {X : Cx} : OpG X (compareOp .Eq) (gEqS id) := by
  refine ⟨_, op_eq, fun ι H S x y d e z Q hS rx ry hz k => ?_⟩
  unfold gEqS at hz
  split at hz
  · rename_i a b
    simp only [RelD] at rx ry
    subst rx ry
    cases hz
    refine ⟨rfl, k H _ Ext.refl hS ?_⟩
    simp only [RelD, id]
    congr 1
    simp
  · cases hz
theorem og_neS {X : Cx} : OpG X (compareOp .NotEq) (gEqS not) := by
  refine ⟨_, op_ne, fun ι H S x y d e z Q hS rx ry hz k => ?_⟩
  unfold gEqS at hz
  split at hz
  · rename_i a b
    simp only [RelD] at rx ry
    subst rx ry
    cases hz
    refine ⟨rfl, k H _ Ext.refl hS ?_⟩
    simp only [RelD]
    congr 1
    simp
  · cases hz
end EV

namespace EV
open PySem L2 PySem.Spec PyProof.Rows
/-! ### methods of lists -/
section
variable {X : Cx} {W : WX}
/-- o.append(e) -/
def eApp (o a : FE) : FE := fun ρ S => (o ρ S).bind fun od S1 => match od with
  | .loc n => (a ρ S1).bind fun v S2 => match S2[n]? with
    | some (.lst ds) => if sz (ds.length + 1) = true then .ok .non (S2.set n (.lst (ds ++ [v]))) else .stuck
    | none => .stuck
  | _ => .stuck
theorem se_app {o e : Expr} {apos cpos : Pos} {fo fe : FE} (ho : PE X o (RE X.K W fo)) (he : PE X e (RE X.K W fe)) (hbase : attributeBase o "append" X.env (eval o X.env) = eval o X.env)
    (hfew : ((backTo cpos (starEach (e :: []) X.env)).all (fun x => !x.1) && (backToKw cpos (keywordEach [] X.env)).all (fun x => x.1.isSome) && decide ((e :: []).length + ([] : List Keyword).length + (if ([] : List Keyword).isEmpty then 0 else 1) < 30)) = true)
    (hline : (apos.endLine == cpos.line) = true) (hs : starEach (e :: []) X.env = (false, eval e X.env) :: starEach [] X.env) : PE X (.Call (.Attribute o "append" apos) [e] [] cpos) (RE X.K W (eApp fo fe)) := by
  refine PE.weak (pe_bm PySem.F.plainAttrs_list PySem.F.slot_list_append PySem.F.type_list_append mt_append ho (pa_cons he pa_nil hs) hbase hfew hline hs rfl) fun σ H Q ⟨ι, ρ, S, hS, hE, hp⟩ => ?_
  refine ⟨ι, ρ, S, hS, hE, (Post.bind hp).imp fun ι1 H1 od S1 e1 s1 p1 x rx => ?_⟩
  split at p1
  · rename_i n
    have rx1 := rx
    simp only [RelD] at rx1
    obtain ⟨a0, rfl, ha0⟩ := rx1
    have hn : n < S1.length := by rw [← s1.len]; exact (List.getElem?_eq_some_iff.mp ha0).1
    obtain ⟨a', o', q1, q2, q3⟩ := s1.at_ n S1[n] (by simp [hn])
    rw [ha0] at q1
    cases q1
    have hty : tyV X.K "list" (V.ref a0) H1 := by
      cases hc : S1[n] with
      | lst ds =>
        rw [hc] at q3
        obtain ⟨xs, rfl, _⟩ := q3
        exact .inl ⟨rfl, xs, .of q2⟩
    refine ⟨hty, ι1, ρ, S1, s1, hE.mono e1, (Post.bind p1).imp fun ι2 H2 v S2 e2 s2 p2 y ry => ?_⟩
    have rx2 := rx.mono e2
    simp only [RelD] at rx2
    obtain ⟨a, hrf, ha⟩ := rx2
    cases hrf
    split at p2
    · rename_i ds hds
      split at p2
      · rename_i hz
        obtain ⟨a', o', q1, q2, xs, rfl, r⟩ := s2.at_ n _ hds
        rw [ha] at q1
        cases q1
        refine ⟨a0, xs, y, rfl, rfl, q2, by rw [r.length]; exact sz_lt hz, ?_⟩
        exact p2 ι2 _ (ext_write s2 ha) (s2.write ha ⟨_, rfl, r.append (.cons ry .nil)⟩) _ relD_non
      · exact p2.elim
    · exact p2.elim
  · exact p1.elim
end
end EV

namespace EV
open PySem L2 PySem.Spec PyProof.Rows
/-! ### zip of a list and a tuple, in either order: what a source of items is -/
structure Src where
  It : Heap → Addr → Addr → Nat → Prop
  Sq : Heap → Addr → Array Value → Prop
  itE : ∀ {h h' : Heap} {a b l : Addr} {i : Nat}, It h a l i → Heap.ExtBut b h h' → a ≠ b → It h' a l i
  sqE : ∀ {h h' : Heap} {a b : Addr} {xs : Array Value}, Sq h a xs → Heap.ExtBut b h h' → a ≠ b → Sq h' a xs
  itA : ∀ {h h' : Heap} {a l : Addr} {i : Nat}, It h a l i → (∀ o, h.get? a = some o → h'.get? a = some o) → It h' a l i
  ob : ∀ {h : Heap} {a l : Addr} {i : Nat}, It h a l i → ∃ o vs, h.get? a = some o ∧ o.data = .fields vs
  item : ∀ {prog : Program} {w : World} {A : Around} {E : Value → Shared → Prop} {s : Shared} {it l : Addr} {i : Nat} {xs : Array Value} {x : Value} {Q : Value → Shared → Prop}, It s.heap it l i → Sq s.heap l xs → xs[i]? = some x →
    (∀ h', It h' it l (i + 1) → Heap.SameBut it s.heap h' → Q x { s with heap := h' }) → wpAny (model prog w) A (Builtin.SmallTypes.nextOf (.ref it)) Q E s
  stop : ∀ {prog : Program} {w : World} {A : Around} {E : Value → Shared → Prop} {s : Shared} {it l : Addr} {i : Nat} {xs : Array Value} {Q : Value → Shared → Prop}, A.handled = none → It s.heap it l i → Sq s.heap l xs → xs[i]? = none →
    (∀ h' e, Heap.ExtBut it s.heap h' → (∃ o, h'.get? e = some o ∧ o.cls = .type "StopIteration") → E (.ref e) { s with heap := h' }) → wpAny (model prog w) A (Builtin.SmallTypes.nextOf (.ref it)) Q E s
def srcL : Src where
  It := Heap.IsListIter
  Sq := Heap.IsList
  itE := fun x e n => x.extBut e n
  sqE := fun x e n => x.extBut e n
  itA := fun x e => x.at e
  ob := fun ⟨o, e1, _, e2⟩ => ⟨o, _, e1, e2⟩
  item := fun a b c d => wpAny_nextOf_list_item a b c d
  stop := fun z a b c d => wpAny_nextOf_list_end z a b c d
def srcT : Src where
  It := Heap.IsTupleIter
  Sq := Heap.IsTuple
  itE := fun x e n => x.extBut e n
  sqE := fun x e n => x.extBut e n
  itA := fun x e => x.at e
  ob := fun ⟨o, e1, _, e2⟩ => ⟨o, _, e1, e2⟩
  item := fun a b c d => RZ.nextOf_tuple_item a b c d
  stop := fun z a b c d => RZ.nextOf_tuple_end z a b c d
section
variable {prog : Program} {w : World} {A : Around} {E : Value → Shared → Prop} {s : Shared} (U V : Src)
theorem mz_item {z T O i j l m : Addr} {p q : Nat} {xs ys : Array Value} {x y a b : Value} {Q : Value → Shared → Prop} (D : ZipApart z T O i j l m) (hz : IsZip s.heap z T O .none) (hT : IsPair s.heap T (.ref i) (.ref j)) (hO : IsPair s.heap O a b)
    (h1 : U.It s.heap i l p) (h2 : V.It s.heap j m q) (g1 : U.Sq s.heap l xs) (g2 : V.Sq s.heap m ys) (hx : xs[p]? = some x) (hy : ys[q]? = some y)
    (hQ : ∀ h', IsZip h' z T O (rawInt s.heap.objs.size) → IsPair h' O x y → U.It h' i l (p + 1) → V.It h' j m (q + 1) → IsPair h' s.heap.objs.size x y → h'.objs.size = s.heap.objs.size + 1 →
      (∀ c o, c ≠ z → c ≠ O → c ≠ i → c ≠ j → s.heap.get? c = some o → h'.get? c = some o) → Q (.ref s.heap.objs.size) { s with heap := h' }) :
    wpAny (model prog w) A (Builtin.«zip.__next__» ⟨[.ref z], []⟩) (fun fin t => ∃ v, fin = .done (.ret v) ∧ Q v t) E s := by
  change wpAny (model prog w) A (field (.ref z) 2 >>= _) _ E s
  refine wpAny_bind (wpAny_field hz rfl (x := .bool false) rfl ?_)
  change wpAny (model prog w) A (field (.ref z) 3 >>= _) _ E s
  refine wpAny_bind (wpAny_field hz rfl (x := .ref T) rfl (wpAny_bind (wpAny_seqItems hT rfl ?_)))
  change wpAny (model prog w) A (Builtin.SmallTypes.ownedTupleIsFree (.ref z) >>= _) _ E s
  refine wpAny_bind ?_
  unfold Builtin.SmallTypes.ownedTupleIsFree
  refine wpAny_bind (wpAny_field hz rfl (x := .none) rfl (wpAny_pure ?_))
  simp only [if_true]
  refine wpAny_bind (wpAny_rule (wpAny_bind (wpAny_field hz rfl (x := .ref O) rfl (wpAny_bind (wpAny_setField_rec hz (by simp) fun k1 z1 s1 => ?_)))))
  have z1 : IsZip k1 z T O .ellipsis := z1
  refine wpAny_bind ?_
  simp only [List.zipIdx_cons, List.zipIdx_nil, List.forIn_cons, List.forIn_nil]
  refine wpAny_bind (wpAny_bind (wpAny_onRaise ?_))
  change wpAny (model prog w) _ (Builtin.SmallTypes.nextOf (.ref i) >>= _) _ _ _
  refine wpAny_bind (U.item (U.itE h1 s1.extBut D.i1z) (U.sqE g1 s1.extBut D.l1z) hx fun k2 i2 s2 => wpAny_pure ?_)
  have o2 : IsPair k2 O a b := s2.extBut _ _ D.TOi1 (s1.extBut _ _ D.TOz hO)
  refine wpAny_bind (wpAny_seqItems o2 rfl (wpAny_bind (wpAny_updateSeq_pair o2 fun k3 o3 s3 => ?_)))
  have o3 : IsPair k3 O x b := o3
  refine wpAny_bind (wpAny_letGo (wpAny_pure (wpAny_bind (wpAny_bind (wpAny_onRaise ?_)))))
  change wpAny (model prog w) _ (Builtin.SmallTypes.nextOf (.ref j) >>= _) _ _ _
  refine wpAny_bind ?_
  refine V.item (V.itE (V.itE (V.itE h2 s1.extBut D.i2z) s2.extBut D.i12.symm) s3.extBut D.TOi2.symm) (V.sqE (V.sqE (V.sqE g2 s1.extBut D.l2z) s2.extBut D.l2i1) s3.extBut D.l2TO) hy fun k4 j4 s4 => wpAny_pure ?_
  have o4 : IsPair k4 O x b := s4.extBut _ _ D.TOi2 o3
  refine wpAny_bind (wpAny_seqItems o4 rfl (wpAny_bind (wpAny_updateSeq_pair o4 fun k5 o5 s5 => ?_)))
  have o5 : IsPair k5 O x y := o5
  refine wpAny_bind (wpAny_letGo (wpAny_pure (wpAny_pure (wpAny_bind (wpAny_seqItems o5 rfl (wpAny_bind (wpAny_newTuple ?_)))))))
  have size : k5.objs.size = s.heap.objs.size := by rw [s5.1, s4.1, s3.1, s2.1, s1.1]
  have z5 : IsZip k5 z T O .ellipsis := s5.extBut _ _ D.TOz.symm (s4.extBut _ _ D.i2z.symm (s3.extBut _ _ D.TOz.symm (s2.extBut _ _ D.i1z.symm z1)))
  have old : ∀ c o, c ≠ z → c ≠ O → c ≠ i → c ≠ j → s.heap.get? c = some o → k5.get? c = some o := fun c o n1 n2 n3 n4 e => s5.extBut _ _ n2 (s4.extBut _ _ n4 (s3.extBut _ _ n2 (s2.extBut _ _ n3 (s1.extBut _ _ n1 e))))
  have i5 : U.It k5 i l (p + 1) := U.itE (U.itE (U.itE i2 s3.extBut D.TOi1.symm) s4.extBut D.i12) s5.extBut D.TOi1.symm
  have j5 : V.It k5 j m (q + 1) := V.itE j4 s5.extBut D.TOi2.symm
  have zlt : z < k5.objs.size := Heap.lt_size z5
  change wpAny (model prog w) _ (Builtin.SmallTypes.ownedTupleHandOut (.ref z) (.ref k5.objs.size) >>= _) _ _ _
  refine wpAny_bind ?_
  unfold Builtin.SmallTypes.ownedTupleHandOut
  have z6 : IsZip (k5.push { cls := .type "tuple", data := .seq #[x, y] }) z T O .ellipsis := Heap.get?_push_of_some _ z5
  refine wpAny_bind (wpAny_setField_rec z6 (by simp) fun k7 z7 s7 => ?_)
  have z7 : IsZip k7 z T O (rawInt k5.objs.size) := z7
  refine wpAny_setField_rec z7 (by simp) fun k8 z8 s8 => ?_
  have z8 : IsZip k8 z T O (rawInt k5.objs.size) := z8
  have up : ∀ c o, c ≠ z → k5.get? c = some o → k8.get? c = some o := fun c o n e => s8.extBut _ _ n (s7.extBut _ _ n (Heap.get?_push_of_some _ e))
  have t8 : IsPair k8 k5.objs.size x y := s8.extBut _ _ (Nat.ne_of_gt zlt) (s7.extBut _ _ (Nat.ne_of_gt zlt) (Heap.get?_push_size _ rfl))
  have n8 : k8.objs.size = k5.objs.size + 1 := by rw [s8.1, s7.1, Heap.size_push]
  rw [size] at z8 t8 n8
  refine wpAny_pure ⟨_, rfl, ?_⟩
  show Q (.ref k5.objs.size) _
  rw [size]
  exact hQ k8 z8 (up _ _ D.TOz o5) (U.itA i5 fun o e => up _ o D.i1z e) (V.itA j5 fun o e => up _ o D.i2z e) t8 n8 fun c o n1 n2 n3 n4 e => up c o n1 (old c o n1 n2 n3 n4 e)
theorem mz_stop {z T O i j l m : Addr} {p q : Nat} {xs ys : Array Value} {a b : Value} {Q : PySem.Fin → Shared → Prop} (hh : A.handled = none) (D : ZipApart z T O i j l m) (hz : IsZip s.heap z T O .none) (hT : IsPair s.heap T (.ref i) (.ref j)) (hO : IsPair s.heap O a b)
    (h1 : U.It s.heap i l p) (h2 : V.It s.heap j m q) (g1 : U.Sq s.heap l xs) (g2 : V.Sq s.heap m ys) (hend : xs[p]? = none ∨ ys[q]? = none)
    (hE : ∀ h' e, (∀ c o, c ≠ z → c ≠ O → c ≠ i → c ≠ j → s.heap.get? c = some o → h'.get? c = some o) → (∃ o, h'.get? e = some o ∧ o.cls = .type "StopIteration") → E (.ref e) { s with heap := h' }) :
    wpAny (model prog w) A (Builtin.«zip.__next__» ⟨[.ref z], []⟩) Q E s := by
  change wpAny (model prog w) A (field (.ref z) 2 >>= _) _ E s
  refine wpAny_bind (wpAny_field hz rfl (x := .bool false) rfl ?_)
  change wpAny (model prog w) A (field (.ref z) 3 >>= _) _ E s
  refine wpAny_bind (wpAny_field hz rfl (x := .ref T) rfl (wpAny_bind (wpAny_seqItems hT rfl ?_)))
  change wpAny (model prog w) A (Builtin.SmallTypes.ownedTupleIsFree (.ref z) >>= _) _ E s
  refine wpAny_bind ?_
  unfold Builtin.SmallTypes.ownedTupleIsFree
  refine wpAny_bind (wpAny_field hz rfl (x := .none) rfl (wpAny_pure ?_))
  simp only [if_true]
  refine wpAny_bind (wpAny_rule (wpAny_bind (wpAny_field hz rfl (x := .ref O) rfl (wpAny_bind (wpAny_setField_rec hz (by simp) fun k1 z1 s1 => ?_)))))
  have z1 : IsZip k1 z T O .ellipsis := z1
  refine wpAny_bind ?_
  simp only [List.zipIdx_cons, List.zipIdx_nil, List.forIn_cons, List.forIn_nil]
  refine wpAny_bind (wpAny_bind (wpAny_onRaise ?_))
  change wpAny (model prog w) _ (Builtin.SmallTypes.nextOf (.ref i) >>= _) _ _ _
  cases hx : xs[p]? with
  | none =>
    refine wpAny_bind (U.stop hh (U.itE h1 s1.extBut D.i1z) (U.sqE g1 s1.extBut D.l1z) hx fun k2 e s2 he => ?_)
    obtain ⟨oe, hoe, hce⟩ := he
    have z2 : IsZip k2 z T O .ellipsis := s2 _ _ D.i1z.symm z1
    have nz : e ≠ z := fun w => by
      subst w
      rw [z2] at hoe
      cases hoe
      simp at hce
    exact wpAny_setField_rec z2 (by simp) fun k3 _ s3 => hE k3 e (fun c o n1 _ n3 _ u => s3.extBut _ _ n1 (s2 _ _ n3 (s1.extBut _ _ n1 u))) ⟨oe, s3.extBut _ _ nz hoe, hce⟩
  | some x =>
    have hy : ys[q]? = none := hend.resolve_left (by rw [hx]; exact nofun)
    refine wpAny_bind (U.item (U.itE h1 s1.extBut D.i1z) (U.sqE g1 s1.extBut D.l1z) hx fun k2 i2 s2 => wpAny_pure ?_)
    have o2 : IsPair k2 O a b := s2.extBut _ _ D.TOi1 (s1.extBut _ _ D.TOz hO)
    refine wpAny_bind (wpAny_seqItems o2 rfl (wpAny_bind (wpAny_updateSeq_pair o2 fun k3 o3 s3 => ?_)))
    refine wpAny_bind (wpAny_letGo (wpAny_pure (wpAny_bind (wpAny_bind (wpAny_onRaise ?_)))))
    change wpAny (model prog w) _ (Builtin.SmallTypes.nextOf (.ref j) >>= _) _ _ _
    refine wpAny_bind (V.stop hh (V.itE (V.itE (V.itE h2 s1.extBut D.i2z) s2.extBut D.i12.symm) s3.extBut D.TOi2.symm) (V.sqE (V.sqE (V.sqE g2 s1.extBut D.l2z) s2.extBut D.l2i1) s3.extBut D.l2TO) hy fun k4 e s4 he => ?_)
    obtain ⟨oe, hoe, hce⟩ := he
    have z4 : IsZip k4 z T O .ellipsis := s4 _ _ D.i2z.symm (s3.extBut _ _ D.TOz.symm (s2.extBut _ _ D.i1z.symm z1))
    have nz : e ≠ z := fun w => by
      subst w
      rw [z4] at hoe
      cases hoe
      simp at hce
    exact wpAny_setField_rec z4 (by simp) fun k5 _ s5 => hE k5 e (fun c o n1 n2 n3 n4 u => s5.extBut _ _ n1 (s4 _ _ n4 (s3.extBut _ _ n2 (s2.extBut _ _ n3 (s1.extBut _ _ n1 u))))) ⟨oe, s5.extBut _ _ nz hoe, hce⟩
theorem mzn_item {z T O i j l m : Addr} {p q : Nat} {xs ys : Array Value} {x y a b : Value} {Q : Option Value → Shared → Prop} (D : ZipApart z T O i j l m) (hz : IsZip s.heap z T O .none) (hT : IsPair s.heap T (.ref i) (.ref j)) (hO : IsPair s.heap O a b)
    (h1 : U.It s.heap i l p) (h2 : V.It s.heap j m q) (g1 : U.Sq s.heap l xs) (g2 : V.Sq s.heap m ys) (hx : xs[p]? = some x) (hy : ys[q]? = some y)
    (hQ : ∀ h', IsZip h' z T O (rawInt s.heap.objs.size) → IsPair h' O x y → U.It h' i l (p + 1) → V.It h' j m (q + 1) → IsPair h' s.heap.objs.size x y → h'.objs.size = s.heap.objs.size + 1 →
      (∀ c o, c ≠ z → c ≠ O → c ≠ i → c ≠ j → s.heap.get? c = some o → h'.get? c = some o) → Q (some (.ref s.heap.objs.size)) { s with heap := h' }) : wpAny (model prog w) A (pyNext (.ref z)) Q E s := by
  have ty : s.TypeIs (.ref z) "zip" := ⟨_, hz, rfl⟩
  unfold pyNext
  refine wpAny_bind (wpAny_attempt (wpAny_callSpecial?_slot (name := Str.ofString "__next__") ty F.slot_zip_next (wpAny_call_entry F.slot_zip_next ty F.entry_zip_next ?_ (F.args_zip_next_1 _))))
  exact mz_item U V D hz hT hO h1 h2 g1 g2 hx hy fun h' a1 a2 a3 a4 a5 a6 a7 => wpAny_pure (hQ h' a1 a2 a3 a4 a5 a6 a7)
theorem mzn_stop {z T O i j l m : Addr} {p q : Nat} {xs ys : Array Value} {a b : Value} {Q : Option Value → Shared → Prop} (hh : A.handled = none) (D : ZipApart z T O i j l m) (hz : IsZip s.heap z T O .none) (hT : IsPair s.heap T (.ref i) (.ref j)) (hO : IsPair s.heap O a b)
    (h1 : U.It s.heap i l p) (h2 : V.It s.heap j m q) (g1 : U.Sq s.heap l xs) (g2 : V.Sq s.heap m ys) (hend : xs[p]? = none ∨ ys[q]? = none)
    (hQ : ∀ h', (∀ c o, c ≠ z → c ≠ O → c ≠ i → c ≠ j → s.heap.get? c = some o → h'.get? c = some o) → Q none { s with heap := h' }) : wpAny (model prog w) A (pyNext (.ref z)) Q E s := by
  have ty : s.TypeIs (.ref z) "zip" := ⟨_, hz, rfl⟩
  unfold pyNext
  refine wpAny_bind (wpAny_attempt (wpAny_callSpecial?_slot (name := Str.ofString "__next__") ty F.slot_zip_next (wpAny_call_entry F.slot_zip_next ty F.entry_zip_next ?_ (F.args_zip_next_1 _))))
  refine mz_stop U V hh D hz hT hO h1 h2 g1 g2 hend fun h' e hk he => ?_
  obtain ⟨o, ho, hc⟩ := he
  exact wpAny_bind (wpAny_isInstance (T := "StopIteration") (b := true) ⟨o, ho, hc⟩ isSubtype_stop (wpAny_pure (hQ _ hk)))
end
/-! the two sources by values -/
inductive Kd where
  | l | t
def Kd.src : Kd → Src
  | .l => srcL
  | .t => srcT
def Kd.Sq (K : PySem.W.Frag) : Kd → Hp → Addr → List V → Prop
  | .l, H, a, xs => SqL K H a xs
  | .t, H, a, xs => SqT K H a xs
theorem kd_get {X : Cx} {pins : List (Addr × Obj)} {σ : L2.St} {H : Hp} {s : Shared} (I : Inv X pins σ H s) : ∀ (κ : Kd) {a : Addr} {xs : List V}, κ.Sq X.K H a xs → ∃ its : List Value, Vals xs its ∧ κ.src.Sq s.heap a its.toArray ∧ a < s.heap.objs.size
  | .l, a, xs, h => by
    obtain ⟨its, r, p, _⟩ := I.list h
    exact ⟨its, r, p.isList, p.lt⟩
  | .t, a, xs, h => by
    obtain ⟨its, r, p, _⟩ := I.tuple h
    obtain ⟨o, ho, _⟩ := id p
    exact ⟨its, r, p, Heap.lt_size ho⟩
theorem kd_inj {X : Cx} {pins : List (Addr × Obj)} {σ : L2.St} {H : Hp} {s : Shared} (I : Inv X pins σ H s) : ∀ (κ : Kd) {a : Addr} {xs ys : List V}, κ.Sq X.K H a xs → κ.Sq X.K H a ys → xs = ys
  | .l, a, xs, ys, h, g => I.list_inj h g
  | .t, a, xs, ys, h, g => I.tuple_inj h g
def Kd.nm : Kd → String
  | .l => "list_iterator"
  | .t => "tuple_iterator"
theorem kd_new : ∀ (κ : Kd) {h : Heap} {p a : Addr}, h.get? p = some { cls := .type κ.nm, data := .fields #[.ref a, .int 0 0] } → κ.src.It h p a 0
  | .l, h, p, a, e => ⟨_, e, rfl, rfl⟩
  | .t, h, p, a, e => ⟨_, e, rfl, rfl⟩
/-- the pairs of two sources, one after another -/
def ItM (K : PySem.W.Frag) (κ μ : Kd) (a b : Addr) : It :=
  ⟨fun i H => ∃ (xs ys : List V) (x y : V), κ.Sq K H a xs ∧ μ.Sq K H b ys ∧ xs[i]? = some x ∧ ys[i]? = some y,
    fun i H v H' => ∃ p x y, v = .ref p ∧ H p = none ∧ H' = upd H p (.tup [x, y]) ∧ (∀ xs, κ.Sq K H a xs → xs[i]? = some x) ∧ ∀ ys, μ.Sq K H b ys → ys[i]? = some y,
    fun i H => ∃ xs ys : List V, κ.Sq K H a xs ∧ μ.Sq K H b ys ∧ (xs.length ≤ i ∨ ys.length ≤ i)⟩
theorem turnM {P : Program} {w : World} {K : PySem.W.Frag} (κ μ : Kd) {elts : List Expr} {kk : Nat} {tpos : Pos} {a b z T O i j : Addr} (D : ZipApart z T O i j a b) :
    Turn P w K (.Tuple elts kk tpos) (ItM K κ μ a b) [z, T, O, i, j] z (fun k h => IsZip h z T O .none ∧ IsPair h T (.ref i) (.ref j) ∧ (∃ x y, IsPair h O x y) ∧ κ.src.It h i a k ∧ μ.src.It h j b k) where
  mem := List.mem_cons_self
  obj := fun k h st c hc => by
    obtain ⟨hz, hT, ⟨x, y, hO⟩, h1, h2⟩ := st
    obtain ⟨o1, v1, e1, d1⟩ := κ.src.ob h1
    obtain ⟨o2, v2, e2, d2⟩ := μ.src.ob h2
    simp only [List.mem_cons, List.not_mem_nil, or_false] at hc
    rcases hc with rfl | rfl | rfl | rfl | rfl
    · exact ⟨_, hz, fun v q => nomatch q⟩
    · exact ⟨_, hT, fun v q => nomatch q⟩
    · exact ⟨_, hO, fun v q => nomatch q⟩
    · exact ⟨o1, e1, fun v q => by rw [d1] at q; cases q⟩
    · exact ⟨o2, e2, fun v q => by rw [d2] at q; cases q⟩
  keep := fun k h h' ⟨hz, hT, ⟨x, y, hO⟩, h1, h2⟩ kp =>
    ⟨kp z (by simp) _ hz, kp T (by simp) _ hT, ⟨x, y, kp O (by simp) _ hO⟩, κ.src.itA h1 fun o q => kp i (by simp) o q, μ.src.itA h2 fun o q => kp j (by simp) o q⟩
  item := by
    intro X hP hw hK hc k pins s σ H E I hf st hg
    subst hP hw hK
    obtain ⟨hz, hT, ⟨x0, y0, hO⟩, h1, h2⟩ := st
    obtain ⟨xs, ys, x, y, qx, qy, ex, ey⟩ := hg
    obtain ⟨its, rv, p1, _⟩ := kd_get I κ qx
    obtain ⟨jts, rw', p2, _⟩ := kd_get I μ qy
    obtain ⟨u, hu, ru⟩ := rv.get ex
    obtain ⟨u2, hu2, ru2⟩ := rw'.get ey
    have zlt : z < s.heap.objs.size := Heap.lt_size hz
    have ilt : i < s.heap.objs.size := by
      obtain ⟨_, _, e, _⟩ := κ.src.ob h1
      exact Heap.lt_size e
    have jlt : j < s.heap.objs.size := by
      obtain ⟨_, _, e, _⟩ := μ.src.ob h2
      exact Heap.lt_size e
    have Olt : O < s.heap.objs.size := Heap.lt_size hO
    have Tlt : T < s.heap.objs.size := Heap.lt_size hT
    refine mzn_item κ.src μ.src D hz hT hO h1 h2 p1 p2 (x := u) (y := u2) (by simpa using hu) (by simpa using hu2) fun h' z' O' i' j' t' n' old => ⟨_, rfl, ?_⟩
    refine wpAny_letOwnedTupleGo_zip (s := { s with heap := h' }) z' fun h'' z'' sb => ?_
    have t2 : h''.get? s.heap.objs.size = some { cls := .type "tuple", data := .seq #[u, u2] } := (sb.2 _ (Nat.ne_of_gt zlt)).trans t'
    have new : ObjOk X.prog X.w (upd H s.heap.objs.size (.tup [x, y])) h'' s.heap.objs.size (.tup [x, y]) := ⟨by show 2 ≤ sizeLine; rw [sizeLine_eq]; omega, [u, u2], .cons ru (.cons ru2 .nil), ⟨_, t2, rfl, _, rfl⟩⟩
    have same : ∀ c o, c ∉ [z, T, O, i, j] → s.heap.get? c = some o → h''.get? c = some o := fun c o nb q => by
      simp only [List.mem_cons, List.not_mem_nil, or_false, not_or] at nb
      exact (sb.2 c nb.1).trans (old c o nb.1 nb.2.2.1 nb.2.2.2.1 nb.2.2.2.2 q)
    have I1 : Inv X pins σ (upd H s.heap.objs.size (.tup [x, y])) { s with heap := h'' } := I.turnedNew (t' := s.toks) (ch := [z, T, O, i, j]) same hf (Nat.le_refl _) new
    refine ⟨.ref s.heap.objs.size, _, I1, rfl, ⟨_, x, y, rfl, I.hok.fresh (Nat.le_refl _), rfl, fun l hl => by rw [kd_inj I κ hl qx]; exact ex, fun l hl => by rw [kd_inj I μ hl qy]; exact ey⟩,
      ⟨z'', (sb.2 _ D.TIz).trans (old _ _ D.TIz D.TITO D.TIi1 D.TIi2 hT), ⟨u, u2, (sb.2 _ D.TOz).trans O'⟩, κ.src.itA i' fun o q => (sb.2 _ D.i1z).trans q, μ.src.itA j' fun o q => (sb.2 _ D.i2z).trans q⟩, fun c hcm => ?_⟩
    have lt : c < s.heap.objs.size := by
      simp only [List.mem_cons, List.not_mem_nil, or_false] at hcm
      rcases hcm with rfl | rfl | rfl | rfl | rfl <;> assumption
    rw [upd_ne (Nat.ne_of_lt lt)]
    exact (hf c hcm).1
  done := by
    intro X hP hw hK hc k pins s σ H E I hf st hg
    subst hP hw hK
    obtain ⟨hz, hT, ⟨x0, y0, hO⟩, h1, h2⟩ := st
    obtain ⟨xs, ys, qx, qy, hend⟩ := hg
    obtain ⟨its, rv, p1, _⟩ := kd_get I κ qx
    obtain ⟨jts, rw', p2, _⟩ := kd_get I μ qy
    have n1 := rv.length
    have n2 := rw'.length
    have he : its.toArray[k]? = none ∨ jts.toArray[k]? = none := hend.imp (fun q => by simp; omega) fun q => by simp; omega
    refine mzn_stop κ.src μ.src (I.ok.hd hc) D hz hT hO h1 h2 p1 p2 he fun h' old => ⟨rfl, ?_⟩
    refine I.turnedL (t' := s.toks) (ch := [z, T, O, i, j]) (fun c o nb q => ?_) hf
    simp only [List.mem_cons, List.not_mem_nil, or_false, not_or] at nb
    exact old c o nb.1 nb.2.2.1 nb.2.2.2.1 nb.2.2.2.2 q
  self := fun A k s Q E st h => wpAny_pyIter_zip st.1 h
/-- the objects that a zip of two sources makes -/
def itOb (κ : Kd) (a : Addr) : Obj := { cls := .type κ.nm, data := .fields #[.ref a, .int 0 0] }
def zh2 (κ μ : Kd) (h : Heap) (a b : Addr) : Heap := (h.push (itOb κ a)).push (itOb μ b)
def zh3 (κ μ : Kd) (h : Heap) (a b : Addr) : Heap := (zh2 κ μ h a b).push { cls := .type "tuple", data := .seq #[.ref h.objs.size, .ref (h.push (itOb κ a)).objs.size] }
def zh4 (κ μ : Kd) (h : Heap) (a b : Addr) : Heap := (zh3 κ μ h a b).push { cls := .type "tuple", data := .seq #[.none, .none] }
def zh5 (κ μ : Kd) (h : Heap) (a b : Addr) : Heap := (zh4 κ μ h a b).push { cls := .type "zip", data := .fields #[.none, .bool false, .bool false, .ref (zh2 κ μ h a b).objs.size, .ref (zh3 κ μ h a b).objs.size] }
theorem zip_lt (a b : Addr) (xs ys : Array Value) : Meets (Builtin.«zip.__new__» ⟨[.type "zip", .ref a, .ref b], []⟩) (fun _ R s => s.heap.IsList a xs ∧ s.heap.IsTuple b ys ∧ R (.ok (.ret (.ref (zh4 .l .t s.heap a b).objs.size))) { s with heap := zh5 .l .t s.heap a b }) :=
  .of_wp fun prog w A R s h => by
    obtain ⟨hp, g, d, tk, os⟩ := s
    obtain ⟨ha, hb, h⟩ := h
    have sub := sub_zip
    have f1 : Heap.IsList (Shared.heap ⟨hp, g, d, tk, os⟩) a xs := ha
    have f2 : Heap.IsTuple (Shared.heap ⟨hp.push (itOb .l a), g, d, tk, os⟩) b ys := Heap.IsTuple.push hb _
    unfold itOb Kd.nm at f2
    wp_walk using wpAny_pyIter_list f1, wpAny_pyIter_tuple f2
    exact ⟨_, rfl, h⟩
theorem zip_tl (a b : Addr) (xs ys : Array Value) : Meets (Builtin.«zip.__new__» ⟨[.type "zip", .ref a, .ref b], []⟩) (fun _ R s => s.heap.IsTuple a xs ∧ s.heap.IsList b ys ∧ R (.ok (.ret (.ref (zh4 .t .l s.heap a b).objs.size))) { s with heap := zh5 .t .l s.heap a b }) :=
  .of_wp fun prog w A R s h => by
    obtain ⟨hp, g, d, tk, os⟩ := s
    obtain ⟨ha, hb, h⟩ := h
    have sub := sub_zip
    have f1 : Heap.IsTuple (Shared.heap ⟨hp, g, d, tk, os⟩) a xs := ha
    have f2 : Heap.IsList (Shared.heap ⟨hp.push (itOb .t a), g, d, tk, os⟩) b ys := Heap.IsList.push hb _
    unfold itOb Kd.nm at f2
    wp_walk using wpAny_pyIter_tuple f1, wpAny_pyIter_list f2
    exact ⟨_, rfl, h⟩
section
variable {prog : Program} {w : World} {A : Around} {E : Value → Shared → Prop} {s : Shared}
theorem zip_mk (κ μ : Kd) {a b : Addr} {xs ys : Array Value} {Q : Value → Shared → Prop} (ha : κ.src.Sq s.heap a xs) (hb : μ.src.Sq s.heap b ys)
    (h : ∀ h', IsZip h' (s.heap.objs.size + 4) (s.heap.objs.size + 2) (s.heap.objs.size + 3) .none → IsPair h' (s.heap.objs.size + 2) (.ref s.heap.objs.size) (.ref (s.heap.objs.size + 1)) → IsPair h' (s.heap.objs.size + 3) .none .none →
      κ.src.It h' s.heap.objs.size a 0 → μ.src.It h' (s.heap.objs.size + 1) b 0 → (∀ c o, s.heap.get? c = some o → h'.get? c = some o) → Q (.ref (s.heap.objs.size + 4)) { s with heap := h' }) :
    wpAny (model prog w) A (call (.type "zip") [.ref a, .ref b]) Q E s := by
  have n1 : (s.heap.push (itOb κ a)).objs.size = s.heap.objs.size + 1 := Heap.size_push ..
  have n2 : (zh2 κ μ s.heap a b).objs.size = s.heap.objs.size + 2 := by unfold zh2; rw [Heap.size_push, n1]
  have n3 : (zh3 κ μ s.heap a b).objs.size = s.heap.objs.size + 3 := by unfold zh3; rw [Heap.size_push, n2]
  have n4 : (zh4 κ μ s.heap a b).objs.size = s.heap.objs.size + 4 := by unfold zh4; rw [Heap.size_push, n3]
  have g5 : (zh5 κ μ s.heap a b).get? (zh4 κ μ s.heap a b).objs.size = some _ := Heap.get?_push_size _ rfl
  have g4 : (zh5 κ μ s.heap a b).get? (zh3 κ μ s.heap a b).objs.size = some _ := Heap.get?_push_of_some _ (Heap.get?_push_size _ rfl)
  have g3 : (zh5 κ μ s.heap a b).get? (zh2 κ μ s.heap a b).objs.size = some _ := Heap.get?_push_of_some _ (Heap.get?_push_of_some _ (Heap.get?_push_size _ rfl))
  have g2 : (zh5 κ μ s.heap a b).get? (s.heap.push (itOb κ a)).objs.size = some (itOb μ b) := Heap.get?_push_of_some _ (Heap.get?_push_of_some _ (Heap.get?_push_of_some _ (Heap.get?_push_size _ rfl)))
  have g1 : (zh5 κ μ s.heap a b).get? s.heap.objs.size = some (itOb κ a) := Heap.get?_push_of_some _ (Heap.get?_push_of_some _ (Heap.get?_push_of_some _ (Heap.get?_push_of_some _ (Heap.get?_push_size _ rfl))))
  rw [n2, n3, n4] at g5
  rw [n1, n2] at g3
  rw [n3] at g4
  rw [n1] at g2
  have last := h _ g5 g3 g4 (kd_new κ g1) (kd_new μ g2) fun c o x => Heap.get?_push_of_some _ (Heap.get?_push_of_some _ (Heap.get?_push_of_some _ (Heap.get?_push_of_some _ (Heap.get?_push_of_some _ x))))
  cases κ with
  | l =>
    cases μ with
    | l =>
      refine callType_new F.called_zip (by decide) (F.typeCall_zip_2 _ _) (F.newCall_zip_2 _ _) (fun obj => F.args_object_init_3 obj _ _) F.entry_zip_new (meets_zip_new a b xs ys) ⟨ha, hb, ?_⟩
      show _ ∧ _
      rw [show (zipH4 s.heap a b).objs.size = s.heap.objs.size + 4 from n4]
      exact ⟨⟨_, g5, rfl⟩, last⟩
    | t =>
      refine callType_new F.called_zip (by decide) (F.typeCall_zip_2 _ _) (F.newCall_zip_2 _ _) (fun obj => F.args_object_init_3 obj _ _) F.entry_zip_new (zip_lt a b xs ys) ⟨ha, hb, ?_⟩
      show _ ∧ _
      rw [n4]
      exact ⟨⟨_, g5, rfl⟩, last⟩
  | t =>
    cases μ with
    | l =>
      refine callType_new F.called_zip (by decide) (F.typeCall_zip_2 _ _) (F.newCall_zip_2 _ _) (fun obj => F.args_object_init_3 obj _ _) F.entry_zip_new (zip_tl a b xs ys) ⟨ha, hb, ?_⟩
      show _ ∧ _
      rw [n4]
      exact ⟨⟨_, g5, rfl⟩, last⟩
    | t =>
      refine callType_new F.called_zip (by decide) (F.typeCall_zip_2 _ _) (F.newCall_zip_2 _ _) (fun obj => F.args_object_init_3 obj _ _) F.entry_zip_new (RZ.meets_zipT_new a b xs ys) ⟨ha, hb, ?_⟩
      show _ ∧ _
      rw [show (RZ.zipTH4 s.heap a b).objs.size = s.heap.objs.size + 4 from n4]
      exact ⟨⟨_, g5, rfl⟩, last⟩
end
/-- for .. in zip(list, tuple), zip(tuple, list) -/
def tZipM (K : PySem.W.Frag) (ta : TA) : L2.TI := fun σ H R => ta σ H fun vs H1 => ∃ a b κ μ xs ys, vs = [.ref a, .ref b] ∧ κ.Sq K H1 a xs ∧ μ.Sq K H1 b ys ∧ R (ItM K κ μ a b) H1
theorem pi_zipM {X : Cx} {e e2 : Expr} {ta : TA} {p pos tpos : Pos} {elts : List Expr} {kk : Nat} (hg : Gl X "zip") (hm : X.mg "zip" = none) (ha : PA X [e, e2] ta) (hs : starEach [e, e2] X.env = (false, eval e X.env) :: starEach [e2] X.env) (hpl : (backTo pos (starEach [e2] X.env)).any (·.1) = false) :
    PI X (.Tuple elts kk tpos) (.Call (.Name "zip" p) [e, e2] [] pos) (tZipM X.K ta) := by
  refine ⟨fun pins s σ H R I h => Call_ (ld_blt I hg hm PyProof.Rows.boot_zip (PyProof.Rows.callWith_type1 (thn (ha.run pos pins s σ H _ I h) fun us t ⟨vs, H1, J, r, q⟩ => ?_) hs hpl))⟩
  obtain ⟨a, b, κ, μ, xs, ys, rfl, qx, qy, q⟩ := q
  obtain ⟨u1, us, rfl, r1, r⟩ : ∃ u us', us = u :: us' ∧ RelV (.ref a) u ∧ Vals [.ref b] us' := by cases r with | cons h1 h2 => exact ⟨_, _, rfl, h1, h2⟩
  obtain ⟨u2, rfl, r2⟩ := vals1 r
  obtain rfl : u1 = Value.ref a := r1
  obtain rfl : u2 = Value.ref b := r2
  obtain ⟨its, _, p1, l1⟩ := kd_get J κ qx
  obtain ⟨jts, _, p2, l2⟩ := kd_get J μ qy
  refine zip_mk κ μ p1 p2 fun h' z T O i j old => wpAny_pyIter_zip z ?_
  have J2 : Inv X pins σ H1 { t with heap := h' } := J.kept (t' := t.toks) old
  have new : ∀ c, c ∈ [t.heap.objs.size + 4, t.heap.objs.size + 2, t.heap.objs.size + 3, t.heap.objs.size, t.heap.objs.size + 1] → FpOk X pins H1 c := fun c hc => by
    have le : t.heap.objs.size ≤ c := by
      simp only [List.mem_cons, List.not_mem_nil, or_false] at hc
      rcases hc with rfl | rfl | rfl | rfl | rfl <;> omega
    exact J.fpOk le (J.hok.fresh le)
  exact ⟨t.heap.objs.size + 4, [t.heap.objs.size + 4, t.heap.objs.size + 2, t.heap.objs.size + 3, t.heap.objs.size, t.heap.objs.size + 1], _, _, H1, rfl, J2, turnM κ μ (PySem.W.ktu_apart t.heap.objs.size a b l1 l2), ⟨z, T, ⟨_, _, O⟩, i, j⟩, new, q⟩
section
variable {X : Cx} {W : WX}
/-- the items of a list or a tuple (a tree) for a zip -/
def kdD : D → Option (Kd × List D)
  | .tup ds => some (.t, ds)
  | .lst ds => some (.l, ds)
  | .frz ds => some (.l, ds)
  | _ => none
theorem kdD_ok {K : PySem.W.Frag} {ι : Lay} {H : Hp} {d : D} {v : V} {κ : Kd} {ds : List D} (r : RelD K ι H d v) (h : kdD d = some (κ, ds)) :
    ∃ a xs, v = .ref a ∧ RelDs K ι H ds xs ∧ ∀ ι' H', WExt ι H ι' H' → κ.Sq K H' a xs := by
  unfold kdD at h
  split at h
  · cases h
    simp only [RelD] at r
    obtain ⟨a, xs, rfl, q, r⟩ := r
    refine ⟨a, xs, rfl, r, fun ι' H' e => ?_⟩
    rcases q with ⟨n, q⟩ | q
    · exact .inl (e.rd n q).2
    · exact sqT_of (ι := ι) (H := H') (.inr q)
  · cases h
    simp only [RelD] at r
    obtain ⟨a, xs, rfl, q, r⟩ := r
    exact ⟨a, xs, rfl, r, fun ι' H' e => .of (e.keep _ _ q.2 q.1).1⟩
  · cases h
    simp only [RelD] at r
    obtain ⟨a, xs, rfl, q, r⟩ := r
    refine ⟨a, xs, rfl, r, fun ι' H' e => ?_⟩
    rcases q with ⟨n, q⟩ | q
    · exact .inl (e.rd n q).2
    · exact sqL_of (ι := ι) (H := H') (.inr q)
  · cases h
def iZip (a b : FE) : FI := fun ρ S => (a ρ S).bind fun d S1 => (b ρ S1).bind fun e S2 => match kdD d, kdD e with
  | some (_, ds), some (_, es) => .ok (zipD ds es) S2
  | _, _ => .stuck
theorem si_zipM {elts : List Expr} {kk : Nat} {tpos : Pos} {a b : Expr} {p pos : Pos} {fa fb : FE} (hg : Gl X "zip") (hm : X.mg "zip" = none) (ha : PE X a (RE X.K W fa)) (hb : PE X b (RE X.K W fb)) (hs : starEach [a, b] X.env = (false, eval a X.env) :: starEach [b] X.env) (hs2 : starEach [b] X.env = [(false, eval b X.env)]) :
    PI X (.Tuple elts kk tpos) (.Call (.Name "zip" p) [a, b] [] pos) (RI X.K W (iZip fa fb)) := by
  refine PI.weak (pi_zipM hg hm (pa_cons ha (pa_cons hb pa_nil hs2) hs) hs (by rw [hs2]; rfl)) fun σ H R ⟨ι, ρ, S, hS, hE, hp⟩ => ?_
  refine ⟨ι, ρ, S, hS, hE, (Post.bind hp).imp fun ι1 H1 d S1 e1 s1 p1 x rx => ?_⟩
  refine ⟨ι1, ρ, S1, s1, hE.mono e1, (Post.bind p1).imp fun ι2 H2 d2 S2 e2 s2 p2 y ry => ?_⟩
  have rx2 := rx.mono e2
  split at p2
  · rename_i κ ds μ es h1 h2
    obtain ⟨a, xs, rfl, r1, q1⟩ := kdD_ok rx2 h1
    obtain ⟨b, ys, rfl, r2, q2⟩ := kdD_ok ry h2
    have w2 : WExt ι2 H2 ι2 H2 := (Ext.refl).w
    exact ⟨a, b, κ, μ, xs, ys, rfl, q1 _ _ w2, q2 _ _ w2, p2.ok s2 _ (itg_zip r1 r2 (fun H' zs => κ.Sq X.K H' a zs) (fun H' zs => μ.Sq X.K H' b zs) q1 q2
      (fun i H' x y h1 h2 h3 h4 => ⟨xs, ys, x, y, h1, h2, h3, h4⟩) (fun i H' h1 h2 h3 => ⟨xs, ys, h1, h2, h3⟩) fun i H' x H'' h => h)⟩
  · exact p2.elim
end
end EV

namespace EV
open PySem L2 PySem.Spec PyProof.Rows
/-! ### the compiler: its context -/
structure Cc where
  N : List Str
  sc : Scope
  own : Scope
  bis : List Str
  kon : List (Str × V)
  defs : List (Str × FC)
  mu : List Pos
structure CcOk (X : Cx) (W : WX) (c : Cc) : Prop where
  N : X.N = c.N
  nd : c.N.Nodup
  sc : X.env.scope = c.sc
  calm : X.calm = true
  u : X.A.units + 128 < cLine
  gu : X.A.guards = some []
  pas : ∀ σ, PassesAt (L2.CX X.prog X.w) X σ (WE W σ)
  fn : ∀ x, Loc c.own x → Loc c.sc x ∧ (X.fn x = true ∨ c.sc.names.lookup x = some .local)
  bis : ∀ x ∈ c.bis, X.mg x = none
  kon : ∀ p ∈ c.kon, ∃ u, X.mg p.1 = some u ∧ RelV p.2 u
  defs : ∀ p ∈ c.defs, ∃ k f, X.mg p.1 = some (.ref f) ∧ PySem.W.keepIn X.K (.ref f) = true ∧ Room k X.A ∧ FnG X.prog X.w X.K X.mg X.base (L2.CX X.prog X.w) k f (spD X.K p.2)
theorem passW0 {X : Cx} (σ : L2.St) : PassesAt (L2.CX X.prog X.w) X σ (WE W0 σ) := fun _ _ _ e s' I c => by
  obtain ⟨_, _, _, _, _, _, _, _, _, _, _, _, h⟩ := c
  exact h.elim
/-- the kinds of a block's names within another one -/
def rlb (scope sc : Scope) : Scope := { scope with names := scope.names.map fun p => if (p.2 == NameKind.free && sc.kind == .function && sc.names.lookup p.1 == some .cell) = true then (p.1, NameKind.cell) else p }
theorem rlb_eq (scope : Scope) (env : PySem.Env) : relabel scope env = rlb scope env.scope := by
  unfold relabel rlb
  congr 1
theorem rlb_keep (scope sc : Scope) {kd : NameKind} (hk : kd ≠ .free) : ∀ (names : List (Str × NameKind)) (x : Str), names.lookup x = some kd →
    (names.map fun p => if (p.2 == NameKind.free && sc.kind == .function && sc.names.lookup p.1 == some .cell) = true then (p.1, NameKind.cell) else p).lookup x = some kd
  | [], x, h => by cases h
  | (n, k) :: r, x, h => by
    have ih := rlb_keep scope sc hk r x
    rw [List.map_cons]
    cases hx : x == n with
    | true =>
      simp only [List.lookup_cons, hx] at h
      cases h
      rw [if_neg]
      · simp only [List.lookup_cons, hx]
      · intro z
        simp only [Bool.and_eq_true, beq_iff_eq] at z
        exact hk z.1.1
    | false =>
      simp only [List.lookup_cons, hx] at h
      split
      · simp only [List.lookup_cons, hx]; exact ih h
      · simp only [List.lookup_cons, hx]; exact ih h
/-- .. within a comprehension -/
theorem CcOk.blk {X : Cx} {W : WX} {c : Cc} (h : CcOk X W c) {s : Shared} {H : Hp} {scope : Scope} {C : Addr} {cl : List (Str × Addr)} {fp : List Addr} :
    CcOk (X.blk s H scope (compEnvC scope cl C X.env) fp) W0 { c with sc := rlb scope c.sc, own := scope } :=
  ⟨h.N, h.nd, by rw [← h.sc]; exact rlb_eq scope X.env, h.calm, h.u, h.gu, fun σ => passW0 σ, fun x hx => by
    rcases hx with hx | hx
    · have e := rlb_keep scope c.sc (kd := .local) (by decide) _ _ hx
      exact ⟨.inl e, .inr e⟩
    · have e := rlb_keep scope c.sc (kd := .cell) (by decide) _ _ hx
      refine ⟨.inr e, .inl ?_⟩
      show (scope.names.lookup x == some .cell) = true
      rw [hx]; rfl, h.bis, h.kon, h.defs⟩
/-! ### what the text says -/
def ixOf (x : Str) : List Str → Option Nat
  | [] => none
  | y :: ys => if y = x then some 0 else (ixOf x ys).map (· + 1)
theorem ixOf_ok {x : Str} : ∀ {N : List Str} {i : Nat}, ixOf x N = some i → N[i]? = some x
  | [], i, h => by cases h
  | y :: ys, i, h => by
    unfold ixOf at h
    split at h
    · rename_i e; cases h; simp [e]
    · cases e : ixOf x ys with
      | none => rw [e] at h; cases h
      | some j =>
        rw [e] at h
        cases h
        simpa using ixOf_ok e
def dbg (x : Str) : Bool := x == ("__debug__" : Str)
def dcd (x : Str) : Bool := x == ("__classdict__" : Str)
def notStar : Expr → Bool
  | .Starred .. => false
  | _ => true
theorem star_no {e : Expr} {es : List Expr} {env : PySem.Env} (h : notStar e = true) : starEach (e :: es) env = (false, eval e env) :: starEach es env := by
  cases e <;> first | rfl | cases h
def noStar (es : List Expr) : Bool := es.all notStar
theorem back_no {pos : Pos} {env : PySem.Env} : ∀ {es : List Expr}, noStar es = true → (backTo pos (starEach es env)).any (·.1) = false
  | [], _ => rfl
  | e :: es, h => by
    unfold noStar at h
    rw [List.all_cons, Bool.and_eq_true] at h
    rw [star_no h.1]
    show (false || (backTo pos (starEach es env)).any (·.1)) = false
    rw [back_no (es := es) h.2]
    rfl
theorem back_yes {pos : Pos} {env : PySem.Env} : ∀ {es : List Expr}, noStar es = false → (backTo pos (starEach es env)).any (·.1) = true
  | [], h => by cases h
  | e :: es, h => by
    by_cases he : notStar e = true
    · rw [star_no he]
      show (false || (backTo pos (starEach es env)).any (·.1)) = true
      rw [back_yes (es := es) (by
        unfold noStar at h ⊢
        rw [List.all_cons, he] at h
        simpa using h)]
      rfl
    · cases e <;> first | exact absurd rfl he | rfl
def notSlice : Expr → Bool
  | .Slice .. => false
  | _ => true
theorem plainIx_of {b : Expr} (h : notSlice b = true) : PlainIx b := by
  intro o i
  cases b <;> first | rfl | cases h
def notSet : Expr → Bool
  | .Set .. => false
  | _ => true
theorem folded_of {e : Expr} {env : PySem.Env} (h : notSet e = true) : ∀ x, foldedSetIterable e env x = pure x := by
  intro x
  cases e <;> first | rfl | cases h
def notComp : Expr → Bool
  | .ListComp .. => false
  | .SetComp .. => false
  | .DictComp .. => false
  | _ => true
theorem swap_of {e : Expr} {t : Option Expr} {l : Nat} {env : PySem.Env} (h : notComp e = true) : swapsWith e t l env = pure false := by
  cases e <;> first | rfl | cases h
def plainTest : Expr → Bool
  | .UnaryOp .Not _ _ => false
  | .BoolOp .. => false
  | .IfExp .. => false
  | .Compare .. => false
  | _ => true
theorem isTrue_of {e : Expr} {env : PySem.Env} (h : plainTest e = true) : ∀ whole, isTrue e env whole = (do let v ← whole; standAt e.pos; holding [v] (truthy v)) := by
  intro whole
  cases e with
  | UnaryOp op a p => cases op <;> first | rfl | cases h
  | _ => first | rfl | cases h
/-! ### the tables -/
def binG : Operator → Option G2
  | .Add => some (gOr gAddI (gOr gAddS (gOr gAddT gAddL)))
  | .Sub => some gSubI
  | .Mult => some (gOr gMulI (gOr gRepL gRepA))
  | .Mod => some gModI
  | .FloorDiv => some gFDivI
  | .Pow => some gPowW
  | _ => none
theorem binG_ok {X : Cx} {op : Operator} {g : G2} (h : binG op = some g) : OpG X (binaryOp op) g := by
  cases op <;> cases h
  · exact og_addI.or (og_addS.or (og_addT.or og_addL))
  · exact og_subI
  · exact og_mulI.or (og_repL.or og_repA)
  · exact og_modI
  · exact og_powW
  · exact og_fdivI
def cmpG : CmpOp → Option G2
  | .Eq => some (gOr (gEqS id) (gEq id))
  | .NotEq => some (gOr (gEqS not) (gEq not))
  | .Lt => some (gCmpI fun i j => decide (i < j))
  | .LtE => some (gCmpI fun i j => decide (i ≤ j))
  | .Gt => some (gCmpI fun i j => decide (j < i))
  | .GtE => some (gCmpI fun i j => decide (j ≤ i))
  | .Is => some (gOr (gIsN id) (gIsB id))
  | .IsNot => some (gOr (gIsN not) (gIsB not))
  | .In => some (gOr (gInT id) (gInL id))
  | .NotIn => some (gOr (gInT not) (gInL not))
theorem cmpG_ok {X : Cx} (hu : X.A.units + 128 < cLine) {op : CmpOp} {g : G2} (h : cmpG op = some g) : OpG X (compareOp op) g := by
  cases op <;> cases h
  · exact og_eqS.or (og_eq (by omega))
  · exact og_neS.or (og_ne (by omega))
  · exact og_lt
  · exact og_le
  · exact og_gt
  · exact og_ge
  · exact og_isN.or og_isB
  · exact og_notN.or og_notB
  · exact og_inT.or (og_inL (by omega))
  · exact og_notInT.or (og_notInL (by omega))
inductive BI where
  | fn (id : String) (g : GC)
  | ty (T : String) (g : GC)
def bT : List (Str × BI) := [("len", .fn "len" gLen), ("abs", .fn "abs" gAbs), ("int", .ty "int" gInt), ("max", .fn "max" (gcOr gMax2 (gExt maxL))), ("min", .fn "min" (gcOr gMin2 (gExt minL))), ("tuple", .ty "tuple" gTuple), ("list", .ty "list" gList),
  ("isinstance", .fn "isinstance" gIsi), ("any", .fn "any" gAny), ("all", .fn "all" gAll), ("sum", .fn "sum" gSum), ("repr", .fn "repr" gRepr)]
def BOk (X : Cx) (p : Str × BI) : Prop := p.1 ≠ "__name__" ∧ (p.1 == ("__debug__" : Str)) = false ∧ match p.2 with
  | .fn id g => CalG X (.builtin id) g ∧ bootBuiltins p.1 = some (.builtin id)
  | .ty T g => CalG X (.type T) g ∧ bootBuiltins p.1 = some (.type T)
theorem bT_ok {X : Cx} (hc : X.calm = true) (hg : X.A.guards = some []) (hu : X.A.units + 128 < cLine) : ∀ p ∈ bT, BOk X p := by
  intro p hp
  unfold bT at hp
  simp only [List.mem_cons, List.not_mem_nil, or_false] at hp
  rcases hp with rfl | rfl | rfl | rfl | rfl | rfl | rfl | rfl | rfl | rfl | rfl | rfl
  · exact ⟨by decide +kernel, by decide +kernel, cg_len, PySem.boot_len⟩
  · exact ⟨by decide +kernel, by decide +kernel, cg_abs, by decide +kernel⟩
  · exact ⟨by decide +kernel, by decide +kernel, cg_int, by decide +kernel⟩
  · exact ⟨by decide +kernel, by decide +kernel, (cg_max2 hc).or (cg_maxL hc), by decide +kernel⟩
  · exact ⟨by decide +kernel, by decide +kernel, (cg_min2 hc).or (cg_minL hc), by decide +kernel⟩
  · exact ⟨by decide +kernel, by decide +kernel, cg_tuple, by decide +kernel⟩
  · exact ⟨by decide +kernel, by decide +kernel, cg_list, by decide +kernel⟩
  · exact ⟨by decide +kernel, by decide +kernel, cg_isi, by decide +kernel⟩
  · exact ⟨by decide +kernel, by decide +kernel, cg_any hc, by decide +kernel⟩
  · exact ⟨by decide +kernel, by decide +kernel, cg_all hc, by decide +kernel⟩
  · exact ⟨by decide +kernel, by decide +kernel, cg_sum hc, by decide +kernel⟩
  · exact ⟨by decide +kernel, by decide +kernel, cg_repr hg hu, by decide +kernel⟩
def tT : List (Str × String) := [("int", "int"), ("bool", "bool"), ("tuple", "tuple"), ("list", "list"), ("str", "str"), ("dict", "dict")]
theorem tT_ok : ∀ p ∈ tT, p.1 ≠ "__name__" ∧ (p.1 == ("__debug__" : Str)) = false ∧ bootBuiltins p.1 = some (.type p.2) := by
  intro p hp
  unfold tT at hp
  simp only [List.mem_cons, List.not_mem_nil, or_false] at hp
  rcases hp with rfl | rfl | rfl | rfl | rfl | rfl <;> exact ⟨by decide +kernel, by decide +kernel, by decide +kernel⟩
end EV

namespace EV
open PySem L2 PySem.Spec PyProof.Rows
/-! ### the compiler of expressions: one layer over a compiler of the parts -/
structure Comp where
  E : Cc → Expr → Option FE
  T : Cc → Expr → Option FT
  B : Cc → BoolOp → List Expr → Option FT
  V : Cc → BoolOp → List Expr → Option FE
  A : Cc → List Expr → Option FA
  I : Cc → Expr → Expr → Option FI
structure Snd (R : Comp) : Prop where
  E : ∀ {X W c e f}, CcOk X W c → R.E c e = some f → PE X e (RE X.K W f)
  T : ∀ {X W c e f}, CcOk X W c → R.T c e = some f → PT X e (RT X.K W f)
  B : ∀ {X W c op es pos f}, CcOk X W c → R.B c op es = some f → PW X (.BoolOp op es pos) (RT X.K W f)
  V : ∀ {X W c op es pos f}, CcOk X W c → R.V c op es = some f → PE X (.BoolOp op es pos) (RE X.K W f)
  A : ∀ {X W c es f}, CcOk X W c → R.A c es = some f → PA X es (RA X.K W f)
  I : ∀ {X W c tg it f}, CcOk X W c → R.I c tg it = some f → PI X tg it (RI X.K W f)
def comp0 : Comp := ⟨fun _ _ => none, fun _ _ => none, fun _ _ _ => none, fun _ _ _ => none, fun _ _ => none, fun _ _ _ => none⟩
theorem snd0 : Snd comp0 := ⟨fun _ h => (by cases h), fun _ h => (by cases h), fun _ h => (by cases h), fun _ h => (by cases h), fun _ h => (by cases h), fun _ h => (by cases h)⟩
def dOfV : V → Option D
  | .non => some .non
  | .bl b => some (.bl b)
  | .int i => some (.int i)
  | .str x => some (.str x)
  | .ty n => some (.ty n)
  | .ref a => some (.ref a)
  | _ => none
theorem dOfV_ok {K : PySem.W.Frag} {ι : Lay} {H : Hp} {v : V} {d : D} (h : dOfV v = some d) : RelD K ι H d v := by
  cases v <;> cases h <;> simp only [RelD]
/-- a name -/
def kName (c : Cc) (x : Str) : Option FE :=
  if (dbg x || dcd x) = true then none else match c.sc.names.lookup x with
    | some .globalImplicit => match c.kon.lookup x with
      | some v => (dOfV v).map eC
      | none => match tT.lookup x with
        | some T => if x ∈ c.bis then some (eC (.ty T)) else none
        | none => none
    | some .globalExplicit => none
    | some _ => (ixOf x c.N).map eVar
    | none => none
theorem gl_of {X : Cx} {W : WX} {c : Cc} (h : CcOk X W c) {x : Str} (e : c.sc.names.lookup x = some .globalImplicit) : Gl X x := by
  show X.env.scope.names.lookup x = _
  rw [h.sc]
  exact e
theorem kName_ok {X : Cx} {W : WX} {c : Cc} (h : CcOk X W c) {x : Str} {pos : Pos} {f : FE} (e : kName c x = some f) : PE X (.Name x pos) (RE X.K W f) := by
  unfold kName at e
  split at e
  · cases e
  · rename_i hd
    simp only [Bool.or_eq_true, not_or, Bool.not_eq_true] at hd
    have hv : ∀ {kd : NameKind}, c.sc.names.lookup x = some kd → (kd = .local ∨ kd = .cell ∨ kd = .free) → Vis X.env.scope x := fun q r => by
      rw [h.sc]
      rcases r with rfl | rfl | rfl
      · exact .inl q
      · exact .inr (.inl q)
      · exact .inr (.inr q)
    have hloc : (ixOf x c.N).map eVar = some f → Vis X.env.scope x → PE X (.Name x pos) (RE X.K W f) := fun q r => by
      cases hi : ixOf x c.N with
      | none => rw [hi] at q; cases q
      | some i =>
        rw [hi] at q
        cases q
        exact se_var (by rw [h.N]; exact ixOf_ok hi) r hd.1 hd.2
    split at e
    · rename_i hk
      split at e
      · rename_i v hv2
        cases hdv : dOfV v with
        | none => rw [hdv] at e; cases e
        | some d =>
          rw [hdv] at e
          cases e
          obtain ⟨u, h1, h2⟩ := h.kon _ (PySem.mem_of_lookup hv2)
          exact se_c (pe_glob (gl_of h hk) h1 h2 hd.1) fun ι H => dOfV_ok hdv
      · split at e
        · rename_i T hT
          split at e
          · rename_i hb
            cases e
            obtain ⟨t1, t2, t3⟩ := tT_ok _ (PySem.mem_of_lookup hT)
            exact se_c (pe_bltn (v := .ty T) (gl_of h hk) (h.bis _ hb) t3 rfl t1 t2) fun ι H => by simp only [RelD]
          · cases e
        · cases e
    · cases e
    · rename_i kd hn1 hn2 hk
      refine hloc e (hv hk ?_)
      cases kd with
      | «local» => exact .inl rfl
      | cell => exact .inr (.inl rfl)
      | free => exact .inr (.inr rfl)
      | globalExplicit => exact absurd rfl hn2
      | globalImplicit => exact absurd rfl hn1
    · cases e
def kConst : Const → Option FE
  | .none => some (eC .non)
  | .bool b => some (eC (.bl b))
  | .int i => some (eC (.int i))
  | .str x => some (eC (.str x))
  | _ => none
theorem kConst_ok {X : Cx} {W : WX} {k : Const} {n : Nat} {pos : Pos} {f : FE} (e : kConst k = some f) : PE X (.Constant k n pos) (RE X.K W f) := by
  cases k <;> cases e
  · exact se_c pe_non fun _ _ => relD_non
  · exact se_c pe_bl fun _ _ => relD_bl _
  · exact se_c pe_int fun _ _ => relD_int _
  · exact se_c pe_str fun _ _ => relD_str _
/-- f(..) -/
def kCall (R : Comp) (c : Cc) (x : Str) (es : List Expr) : Option FE :=
  if dbg x = true then none else match c.sc.names.lookup x with
    | some .globalImplicit => match c.defs.lookup x with
      | some F => match es with
        | [] => some (eCall F aNil)
        | e :: es' => if notStar e = true then (R.A c (e :: es')).map (eCall F) else none
      | none => match bT.lookup x, es with
        | some b, e :: es' => if (decide (x ∈ c.bis) && notStar e && noStar es') = true then (R.A c (e :: es')).map (eCallG (match b with | .fn _ g => g | .ty _ g => g)) else none
        | _, _ => none
    | _ => none
theorem kCall_ok {R : Comp} (S : Snd R) {X : Cx} {W : WX} {c : Cc} (h : CcOk X W c) {x : Str} {es : List Expr} {p pos : Pos} {f : FE} (e : kCall R c x es = some f) : PE X (.Call (.Name x p) es [] pos) (RE X.K W f) := by
  unfold kCall at e
  split at e
  · cases e
  · rename_i hd
    have hdb : (x == ("__debug__" : Str)) = false := by
      unfold dbg at hd
      simpa using hd
    split at e
    · rename_i hk
      have hg := gl_of h hk
      split at e
      · rename_i F hF
        obtain ⟨k, fa, h1, h2, h3, h4⟩ := h.defs _ (PySem.mem_of_lookup hF)
        split at e
        · cases e
          exact se_call0 h4 h3 h.gu hg h1 h2 h.pas hdb
        · rename_i e0 es'
          split at e
          · rename_i hs
            cases ha : R.A c (e0 :: es') with
            | none => rw [ha] at e; cases e
            | some fa' =>
              rw [ha] at e
              cases e
              have A := S.A h ha
              cases hst : noStar es' with
              | true => exact se_call h4 h3 h.gu hg h1 h2 h.pas A hdb (star_no hs) (back_no hst)
              | false => exact se_callS2 h4 h3 h.gu hg h1 h2 h.pas A hdb (star_no hs) (back_yes hst)
          · cases e
      · split at e
        · rename_i b e0 es' hb
          split at e
          · rename_i hc
            simp only [Bool.and_eq_true, decide_eq_true_eq] at hc
            cases ha : R.A c (e0 :: es') with
            | none => rw [ha] at e; cases e
            | some fa' =>
              rw [ha] at e
              cases e
              have A := S.A h ha
              obtain ⟨t1, t2, t3⟩ := bT_ok h.calm h.gu h.u _ (PySem.mem_of_lookup hb)
              cases b with
              | fn id g => exact se_callB t3.1 hg (h.bis _ hc.1.1) t3.2 A t1 t2 (star_no hc.1.2) (back_no hc.2)
              | ty T g => exact se_callTy t3.1 hg (h.bis _ hc.1.1) t3.2 A t1 t2 (star_no hc.1.2) (back_no hc.2)
          · cases e
        · cases e
    · cases e
/-- targets -/
def kNames (c : Cc) : List Expr → Option (List Nat)
  | [] => some []
  | .Name x _ :: es => match c.own.names.lookup x with
    | some .local => (ixOf x c.N).bind fun i => (kNames c es).map (i :: ·)
    | some .cell => (ixOf x c.N).bind fun i => (kNames c es).map (i :: ·)
    | _ => none
  | _ :: _ => none
def kTgt (c : Cc) : Expr → Option Tgt
  | .Name x _ => (kNames c [.Name x ⟨0, 0, 0, 0⟩]).bind fun is => match is with
    | [i] => some (.nm i)
    | _ => none
  | .Tuple es _ _ => (kNames c es).map .tp
  | _ => none
theorem own_of {X : Cx} {W : WX} {c : Cc} (h : CcOk X W c) {x : Str} {i : Nat} (hl : Loc c.own x) (hi : ixOf x c.N = some i) : X.N[i]? = some x ∧ Loc X.env.scope x ∧ (X.fn x = true ∨ X.env.scope.names.lookup x = some .local) := by
  obtain ⟨h1, h2⟩ := h.fn x hl
  rw [h.N, h.sc]
  exact ⟨ixOf_ok hi, h1, h2⟩
theorem kNames_ok {X : Cx} {W : WX} {c : Cc} (h : CcOk X W c) : ∀ {es : List Expr} {is : List Nat}, kNames c es = some is → NmsOk X es is
  | [], is, e => by cases e; exact .nil
  | e0 :: es, is, e => by
    cases e0 with
    | Name x p =>
      have go : ∀ (hl : Loc c.own x), ((ixOf x c.N).bind fun i => (kNames c es).map (i :: ·)) = some is → NmsOk X (.Name x p :: es) is := fun hl q => by
        cases hi : ixOf x c.N with
        | none => rw [hi] at q; cases q
        | some i =>
          rw [hi] at q
          cases hr : kNames c es with
          | none => simp [hr] at q
          | some js =>
            simp [hr] at q
            subst q
            obtain ⟨q1, q2, q3⟩ := own_of h hl hi
            exact .cons q1 q2 q3 (kNames_ok h hr)
      unfold kNames at e
      split at e
      · rename_i hl; exact go (.inl hl) e
      · rename_i hl; exact go (.inr hl) e
      · cases e
    | _ => cases e
theorem kTgt_ok {X : Cx} {W : WX} {c : Cc} (h : CcOk X W c) {tg : Expr} {t : Tgt} (e : kTgt c tg = some t) : PG X tg (tgV X.K t) := by
  cases tg with
  | Name x p =>
    unfold kTgt at e
    cases hn : kNames c [.Name x ⟨0, 0, 0, 0⟩] with
    | none => simp [hn] at e
    | some is =>
      simp only [hn, Option.bind_some] at e
      have N := kNames_ok h hn
      cases N with
      | cons hi hx hf r =>
        cases r
        simp only at e
        cases e
        exact pg_name (by rw [h.N]; exact h.nd) hi hx hf
  | Tuple es k p =>
    unfold kTgt at e
    cases hn : kNames c es with
    | none => simp [hn] at e
    | some is =>
      simp only [hn, Option.map_some] at e
      cases e
      exact pg_tgt h.calm (by rw [h.N]; exact h.nd) (kNames_ok h hn)
  | _ => cases e
/-- comprehensions -/
def ownOf (N : List Str) : List (Str × NameKind) → List (Str × Nat)
  | [] => []
  | (y, .local) :: r => (match ixOf y N with | some i => [(y, i)] | none => []) ++ ownOf N r
  | (y, .cell) :: r => (match ixOf y N with | some i => [(y, i)] | none => []) ++ ownOf N r
  | _ :: r => ownOf N r
def kLc (m : Bool) (R : Comp) (c : Cc) (elt tg it : Expr) (ifs : List Expr) (scope : Scope) : Option FE :=
  let own := ownOf c.N scope.names
  let c2 : Cc := { c with sc := rlb scope c.sc, own := scope }
  if (blkC c.N c.sc scope own && notSet it) = true then
    (R.I c tg it).bind fun fi => (kTgt c2 tg).bind fun t => (match ifs with | [] => some tYesF | [q] => R.T c2 q | _ => none).bind fun ft => (R.E c2 elt).bind fun fe =>
      if (t.slots.all fun i => decide (i ∈ own.map Prod.snd)) = true then some ((if m = true then eLcM else eLc) fi t ft fe (own.map Prod.snd)) else none
  else none
theorem kLc_parts {m : Bool} {R : Comp} (S : Snd R) {X : Cx} {W : WX} {c : Cc} (h : CcOk X W c) {elt tg it : Expr} {ifs : List Expr} {scope : Scope} {f : FE} (e : kLc m R c elt tg it ifs scope = some f) :
    ∃ (fi : FI) (t : Tgt) (ft : FT) (fe : FE) (own : List (Str × Nat)), PI X tg it (RI X.K W fi) ∧ BlkOk X.N X.env.scope scope own ∧ (∀ (s : Shared) (H : Hp) (C : Addr) (cl : List (Str × Addr)) (fp : List Addr), PG (X.blk s H scope (compEnvC scope cl C X.env) fp) tg (tgV X.K t)) ∧
      (∀ (s : Shared) (H : Hp) (C : Addr) (cl : List (Str × Addr)) (fp : List Addr), PTs (X.blk s H scope (compEnvC scope cl C X.env) fp) ifs (RT X.K W0 ft)) ∧
      (∀ (s : Shared) (H : Hp) (C : Addr) (cl : List (Str × Addr)) (fp : List Addr), PE (X.blk s H scope (compEnvC scope cl C X.env) fp) elt (RE X.K W0 fe)) ∧ (∀ x, foldedSetIterable it X.env x = pure x) ∧ (∀ i ∈ t.slots, i ∈ own.map Prod.snd) ∧ f = (if m = true then eLcM else eLc) fi t ft fe (own.map Prod.snd) := by
  unfold kLc at e
  simp only at e
  split at e
  · rename_i hb
    simp only [Bool.and_eq_true] at hb
    cases h1 : R.I c tg it with
    | none => simp [h1] at e
    | some fi =>
      simp only [h1, Option.bind_some] at e
      cases h2 : kTgt { c with sc := rlb scope c.sc, own := scope } tg with
      | none => simp [h2] at e
      | some t =>
        simp only [h2, Option.bind_some] at e
        cases h3 : (match ifs with | [] => some tYesF | [q] => R.T { c with sc := rlb scope c.sc, own := scope } q | _ => none) with
        | none => simp [h3] at e
        | some ft =>
          simp only [h3, Option.bind_some] at e
          cases h4 : R.E { c with sc := rlb scope c.sc, own := scope } elt with
          | none => simp [h4] at e
          | some fe =>
            simp only [h4, Option.bind_some] at e
            split at e
            · rename_i hin
              cases e
              refine ⟨fi, t, ft, fe, ownOf c.N scope.names, S.I h h1, by rw [h.N, h.sc]; exact blkOk_by hb.1, fun s H C cl fp => kTgt_ok (X := X.blk s H scope (compEnvC scope cl C X.env) fp) h.blk h2, fun s H C cl fp => ?_, fun s H C cl fp => S.E (X := X.blk s H scope (compEnvC scope cl C X.env) fp) h.blk h4, folded_of hb.2, fun i hi => ?_, rfl⟩
              · match ifs, h3 with
                | [], h3 => cases h3; exact sts_nil
                | [q], h3 => exact pts_one (S.T (X := X.blk s H scope (compEnvC scope cl C X.env) fp) h.blk h3)
              · rw [List.all_eq_true] at hin
                exact of_decide_eq_true (hin i hi)
            · cases e
  · cases e
theorem kLc_ok {m : Bool} {R : Comp} (S : Snd R) {X : Cx} {W : WX} {c : Cc} (h : CcOk X W c) {elt tg it : Expr} {ifs : List Expr} {scope : Scope} {pos : Pos} {f : FE} (e : kLc m R c elt tg it ifs scope = some f) : PE X (.ListComp elt [⟨tg, it, ifs, 0⟩] scope pos) (RE X.K W f) := by
  obtain ⟨fi, t, ft, fe, own, h1, h2, h3, h4, h5, h6, h7, rfl⟩ := kLc_parts S h e
  split
  · exact se_lcM h.calm (by rw [h.N]; exact h.nd) h1 h2 h3 h4 h5 h6 h7
  · exact se_lc h.calm (by rw [h.N]; exact h.nd) h1 h2 h3 h4 h5 h6 h7
end EV

namespace EV
open PySem L2 PySem.Spec PyProof.Rows
theorem bind_some {α β : Type} {o : Option α} {g : α → Option β} {b : β} (h : o.bind g = some b) : ∃ a, o = some a ∧ g a = some b := by
  cases o with
  | none => cases h
  | some a => exact ⟨a, rfl, h⟩
theorem map_some {α β : Type} {o : Option α} {g : α → β} {b : β} (h : o.map g = some b) : ∃ a, o = some a ∧ g a = b := by
  cases o with
  | none => cases h
  | some a => exact ⟨a, rfl, Option.some.inj h⟩
/-! ### subscripts and slices -/
def kOpt (R : Comp) (c : Cc) : Option Expr → Option FO
  | none => some oNone
  | some e => (R.E c e).map oSome
def kSub (R : Comp) (c : Cc) (a i : Expr) : Option FE := match i with
  | .Slice lo hi st _ => match st with
    | none => (R.E c a).bind fun fa => (kOpt R c lo).bind fun fl => (kOpt R c hi).map fun fh => eSlice fa fl fh
    | some _ => none
  | i => if notSlice i = true then (R.E c a).bind fun fa => (R.E c i).map fun fb => eBin gIx fa fb else none
theorem kOpt_ok {R : Comp} (S : Snd R) {X : Cx} {W : WX} {c : Cc} (h : CcOk X W c) {o : Option Expr} {f : FO} (e : kOpt R c o = some f) : PO X o (RO X.K W f) := by
  cases o with
  | none => cases e; exact so_none
  | some a =>
    obtain ⟨fa, h1, rfl⟩ := map_some e
    exact so_some (S.E h h1)
theorem kSub_ok {R : Comp} (S : Snd R) {X : Cx} {W : WX} {c : Cc} (h : CcOk X W c) {a i : Expr} {pos : Pos} {f : FE} (e : kSub R c a i = some f) : PE X (.Subscript a i pos) (RE X.K W f) := by
  have gen : notSlice i = true → ((R.E c a).bind fun fa => (R.E c i).map fun fb => eBin gIx fa fb) = some f → PE X (.Subscript a i pos) (RE X.K W f) := fun hn e => by
    obtain ⟨fa, h1, e⟩ := bind_some e
    obtain ⟨fb, h2, rfl⟩ := map_some e
    exact se_ix (S.E h h1) (S.E h h2) (plainIx_of hn)
  unfold kSub at e
  split at e
  · rename_i lo hi st p2
    split at e
    · obtain ⟨fa, h1, e⟩ := bind_some e
      obtain ⟨fl, h2, e⟩ := bind_some e
      obtain ⟨fh, h3, rfl⟩ := map_some e
      exact se_slice (S.E h h1) (kOpt_ok S h h2) (kOpt_ok S h h3)
    · cases e
  · split at e
    · rename_i hn
      exact gen hn e
    · cases e
/-! ### comparisons -/
def kCmp (R : Comp) (c : Cc) (a : Expr) (ops : List CmpOp) (es : List Expr) : Option FE := match ops, es with
  | [op], [b] => if behindInMarks op b = true then none else (cmpG op).bind fun g => (R.E c a).bind fun fa => (R.E c b).map fun fb => eBin g fa fb
  | [op, op'], [b, d] => if behindInMarks op' d = true then none else (cmpG op).bind fun g => (cmpG op').bind fun g' => (R.E c a).bind fun fa => (R.E c b).bind fun fb => (R.E c d).map fun fd => eChain g g' fa fb fd
  | _, _ => none
theorem kCmp_ok {R : Comp} (S : Snd R) {X : Cx} {W : WX} {c : Cc} (h : CcOk X W c) {a : Expr} {ops : List CmpOp} {es : List Expr} {pos : Pos} {f : FE} (e : kCmp R c a ops es = some f) : PE X (.Compare a ops es pos) (RE X.K W f) ∧ PT X (.Compare a ops es pos) (RT X.K W (tBl f)) := by
  unfold kCmp at e
  split at e
  · rename_i op b
    split at e
    · cases e
    · rename_i hm
      have hm := Bool.eq_false_iff.mpr hm
      obtain ⟨g, hg, e⟩ := bind_some e
      obtain ⟨fa, h1, e⟩ := bind_some e
      obtain ⟨fb, h2, rfl⟩ := map_some e
      exact ⟨se_cmp (cmpG_ok h.u hg) (S.E h h1) (S.E h h2) hm, st_cmp (cmpG_ok h.u hg) (S.E h h1) (S.E h h2) hm⟩
  · rename_i op op' b d
    split at e
    · cases e
    · rename_i hm
      have hm := Bool.eq_false_iff.mpr hm
      obtain ⟨g, hg, e⟩ := bind_some e
      obtain ⟨g', hg', e⟩ := bind_some e
      obtain ⟨fa, h1, e⟩ := bind_some e
      obtain ⟨fb, h2, e⟩ := bind_some e
      obtain ⟨fd, h3, rfl⟩ := map_some e
      exact ⟨se_chain (cmpG_ok h.u hg) (cmpG_ok h.u hg') (S.E h h1) (S.E h h2) (S.E h h3) hm, st_chain (cmpG_ok h.u hg) (cmpG_ok h.u hg') (S.E h h1) (S.E h h2) (S.E h h3) hm⟩
  · cases e
/-! ### the layers -/
def kLcE (R : Comp) (c : Cc) (elt : Expr) (gs : List Comprehension) (scope : Scope) (pos : Pos) : Option FE := match gs with
  | [g] => if g.is_async = 0 then kLc (decide (pos ∈ c.mu)) R c elt g.target g.iter g.ifs scope else none
  | _ => none
def notCall : Expr → Bool
  | .Call .. => false
  | _ => true
theorem attr_of {o : Expr} {m : Str} {env : PySem.Env} {t : Sem Value} (h : notCall o = true) : attributeBase o m env t = t := by
  cases o <;> first | rfl | cases h
theorem few1 {e : Expr} {cpos : Pos} {env : PySem.Env} (h : notStar e = true) :
    ((backTo cpos (starEach (e :: []) env)).all (fun x => !x.1) && (backToKw cpos (keywordEach [] env)).all (fun x => x.1.isSome) && decide ((e :: []).length + ([] : List Keyword).length + (if ([] : List Keyword).isEmpty then 0 else 1) < 30)) = true := by
  cases e <;> first | rfl | cases h
def kCallE (R : Comp) (c : Cc) (g : Expr) (es : List Expr) (ks : List Keyword) (pos : Pos) : Option FE := match g, ks with
  | .Name x _, [] => kCall R c x es
  | .Attribute o m ap, [] => match es with
    | [e] => if (m == ("append" : Str) && notStar e && notCall o && (ap.endLine == pos.line)) = true then (R.E c o).bind fun fo => (R.E c e).map fun fe => eApp fo fe else none
    | _ => none
  | _, _ => none
theorem kLcE_ok {R : Comp} (S : Snd R) {X : Cx} {W : WX} {c : Cc} {elt : Expr} {gs : List Comprehension} {scope : Scope} {pos : Pos} {f : FE} (h : CcOk X W c) (q : kLcE R c elt gs scope pos = some f) : PE X (.ListComp elt gs scope pos) (RE X.K W f) := by
  unfold kLcE at q
  split at q
  · rename_i g
    split at q
    · rename_i h0
      obtain ⟨tg, it, ifs, n⟩ := g
      simp only at h0
      subst h0
      exact kLc_ok S h q
    · cases q
  · cases q
theorem kCallE_ok {R : Comp} (S : Snd R) {X : Cx} {W : WX} {c : Cc} {g : Expr} {es : List Expr} {ks : List Keyword} {pos : Pos} {f : FE} (h : CcOk X W c) (q : kCallE R c g es ks pos = some f) : PE X (.Call g es ks pos) (RE X.K W f) := by
  unfold kCallE at q
  split at q
  · exact kCall_ok S h q
  · split at q
    · split at q
      · rename_i hc
        simp only [Bool.and_eq_true, beq_iff_eq] at hc
        obtain ⟨⟨⟨hm, hn⟩, ho⟩, hl⟩ := hc
        subst hm
        obtain ⟨fo, h1, q⟩ := bind_some q
        obtain ⟨fe, h2, rfl⟩ := map_some q
        exact se_app (S.E h h1) (S.E h h2) (attr_of ho) (few1 hn) (by rw [hl]; exact beq_self_eq_true _) (star_no hn)
      · cases q
    · cases q
  · cases q
def stepE (R : Comp) (c : Cc) : Expr → Option FE
  | .Name x _ => kName c x
  | .Constant k _ _ => kConst k
  | .BinOp a op b _ => (binG op).bind fun g => (R.E c a).bind fun fa => (R.E c b).map fun fb => eBin g fa fb
  | .UnaryOp .USub a _ => (R.E c a).map eNeg
  | .UnaryOp .Not a _ => (R.E c a).map eNotF
  | .BoolOp op es _ => R.V c op es
  | .Compare a ops es _ => kCmp R c a ops es
  | .IfExp t a b _ => (R.T c t).bind fun ft => (R.E c a).bind fun fa => (R.E c b).map fun fb => eIfF ft fa fb
  | .Tuple es _ _ => (R.A c es).map eTup
  | .List es pos => (R.A c es).map (if pos ∈ c.mu then eLoc else eLst)
  | .Subscript a i _ => kSub R c a i
  | .ListComp elt gs scope pos => kLcE R c elt gs scope pos
  | .Call g es ks pos => kCallE R c g es ks pos
  | _ => none
def stepT (R : Comp) (c : Cc) : Expr → Option FT
  | .UnaryOp .Not a _ => (R.T c a).map tNotF
  | .BoolOp op es _ => R.B c op es
  | .Compare a ops es _ => (kCmp R c a ops es).map tBl
  | e => if plainTest e = true then (R.E c e).map tVal else none
def stepB (R : Comp) (c : Cc) (op : BoolOp) : List Expr → Option FT
  | [] => none
  | [a] => R.T c a
  | a :: b :: r => (R.T c a).bind fun fa => (R.B c op (b :: r)).map fun fb => match op with | .And => tAndF fa fb | .Or => tOrF fa fb
def stepV (R : Comp) (c : Cc) (op : BoolOp) : List Expr → Option FE
  | [] => none
  | [a] => R.E c a
  | a :: b :: r => (R.E c a).bind fun fa => (R.V c op (b :: r)).map fun fb => match op with | .And => eAndF fa fb | .Or => eOrF fa fb
def stepA (R : Comp) (c : Cc) : List Expr → Option FA
  | [] => some aNil
  | .Starred a _ :: r => (R.E c a).bind fun fa => (R.A c r).map fun fr => aStar fa fr
  | a :: r => if notStar a = true then (R.E c a).bind fun fa => (R.A c r).map fun fr => aCons fa fr else none
def isTupE : Expr → Bool
  | .Tuple .. => true
  | _ => false
def stepI (R : Comp) (c : Cc) (tg : Expr) : Expr → Option FI
  | .Call (.Name x p) [a] [] p2 => if (x == ("range" : Str) && decide (x ∈ c.bis) && notStar a && (c.sc.names.lookup x == some .globalImplicit)) = true then (R.E c a).map iRange1 else (R.E c (.Call (.Name x p) [a] [] p2)).map iSeq
  | .Call (.Name x p) [a, b] [] p2 => if (x == ("range" : Str) && decide (x ∈ c.bis) && notStar a && notStar b && (c.sc.names.lookup x == some .globalImplicit)) = true then (R.E c a).bind fun fa => (R.E c b).map fun fb => iRange2 fa fb
      else if (x == ("zip" : Str) && decide (x ∈ c.bis) && notStar a && notStar b && isTupE tg && (c.sc.names.lookup x == some .globalImplicit)) = true then (R.E c a).bind fun fa => (R.E c b).map fun fb => iZip fa fb else (R.E c (.Call (.Name x p) [a, b] [] p2)).map iSeq
  | e => (R.E c e).map iSeq
theorem pe_one {X : Cx} {op : BoolOp} {a : Expr} {pos : Pos} {t : TE} (h : PE X a t) : PE X (.BoolOp op [a] pos) t := ⟨fun pins s σ H Q I q => h.run pins s σ H Q I q⟩
theorem stepE_ok {R : Comp} (S : Snd R) {X : Cx} {W : WX} {c : Cc} {e : Expr} {f : FE} (h : CcOk X W c) (q : stepE R c e = some f) : PE X e (RE X.K W f) := by
  cases e with
  | Name x p => exact kName_ok h q
  | Constant k n p => exact kConst_ok q
  | BinOp a op b p =>
    obtain ⟨g, hg, q⟩ := bind_some q
    obtain ⟨fa, h1, q⟩ := bind_some q
    obtain ⟨fb, h2, rfl⟩ := map_some q
    exact se_bin (binG_ok hg) (S.E h h1) (S.E h h2)
  | UnaryOp op a p =>
    cases op with
    | USub => obtain ⟨fa, h1, rfl⟩ := map_some q; exact se_neg (S.E h h1)
    | Not => obtain ⟨fa, h1, rfl⟩ := map_some q; exact se_notT (S.E h h1)
    | _ => cases q
  | BoolOp op es p => exact S.V h q
  | Compare a ops es p => exact (kCmp_ok S h q).1
  | IfExp t a b p =>
    obtain ⟨ft, h0, q⟩ := bind_some q
    obtain ⟨fa, h1, q⟩ := bind_some q
    obtain ⟨fb, h2, rfl⟩ := map_some q
    exact se_ifExp (S.T h h0) (S.E h h1) (S.E h h2)
  | Tuple es k p => obtain ⟨fa, h1, rfl⟩ := map_some q; exact se_tup (S.A h h1)
  | List es p =>
    obtain ⟨fa, h1, rfl⟩ := map_some q
    split
    · exact se_loc (S.A h h1)
    · exact se_lst (S.A h h1)
  | Subscript a i p => exact kSub_ok S h q
  | ListComp elt gs scope p => exact kLcE_ok S h q
  | Call g es ks p => exact kCallE_ok S h q
  | _ => cases q
theorem stepT_ok {R : Comp} (S : Snd R) {X : Cx} {W : WX} {c : Cc} {e : Expr} {f : FT} (h : CcOk X W c) (q : stepT R c e = some f) : PT X e (RT X.K W f) := by
  have gen : plainTest e = true → (R.E c e).map tVal = some f → PT X e (RT X.K W f) := fun hp z => by
    obtain ⟨fe, h1, rfl⟩ := map_some z
    exact st_truth (S.E h h1) (isTrue_of hp)
  unfold stepT at q
  split at q
  · obtain ⟨fa, h1, rfl⟩ := map_some q; exact st_not (S.T h h1)
  · exact (S.B h q).pt
  · obtain ⟨fa, h1, rfl⟩ := map_some q; exact (kCmp_ok S h h1).2
  · split at q
    · rename_i hp; exact gen hp q
    · cases q
theorem stepB_ok {R : Comp} (S : Snd R) {X : Cx} {W : WX} {c : Cc} {op : BoolOp} {es : List Expr} {pos : Pos} {f : FT} (h : CcOk X W c) (q : stepB R c op es = some f) : PW X (.BoolOp op es pos) (RT X.K W f) := by
  unfold stepB at q
  split at q
  · cases q
  · cases op with
    | And => exact sw_and1 (S.T h q)
    | Or => exact sw_or1 (S.T h q)
  · obtain ⟨fa, h1, q⟩ := bind_some q
    obtain ⟨fb, h2, rfl⟩ := map_some q
    cases op with
    | And => exact sw_and (S.T h h1) (S.B h h2)
    | Or => exact sw_or (S.T h h1) (S.B h h2)
theorem stepV_ok {R : Comp} (S : Snd R) {X : Cx} {W : WX} {c : Cc} {op : BoolOp} {es : List Expr} {pos : Pos} {f : FE} (h : CcOk X W c) (q : stepV R c op es = some f) : PE X (.BoolOp op es pos) (RE X.K W f) := by
  unfold stepV at q
  split at q
  · cases q
  · exact pe_one (S.E h q)
  · obtain ⟨fa, h1, q⟩ := bind_some q
    obtain ⟨fb, h2, rfl⟩ := map_some q
    cases op with
    | And => exact se_andT (S.E h h1) (S.V h h2)
    | Or => exact se_orT (S.E h h1) (S.V h h2)
theorem stepA_ok {R : Comp} (S : Snd R) {X : Cx} {W : WX} {c : Cc} {es : List Expr} {f : FA} (h : CcOk X W c) (q : stepA R c es = some f) : PA X es (RA X.K W f) := by
  unfold stepA at q
  split at q
  · cases q; exact sa_nil
  · obtain ⟨fa, h1, q⟩ := bind_some q
    obtain ⟨fr, h2, rfl⟩ := map_some q
    exact sa_star (S.E h h1) (S.A h h2) rfl
  · split at q
    · rename_i hn
      obtain ⟨fa, h1, q⟩ := bind_some q
      obtain ⟨fr, h2, rfl⟩ := map_some q
      exact sa_cons (S.E h h1) (S.A h h2) (star_no hn)
    · cases q
theorem stepI_ok {R : Comp} (S : Snd R) {X : Cx} {W : WX} {c : Cc} {tg it : Expr} {f : FI} (h : CcOk X W c) (q : stepI R c tg it = some f) : PI X tg it (RI X.K W f) := by
  unfold stepI at q
  split at q
  · rename_i x p a p2
    split at q
    · rename_i hc
      simp only [Bool.and_eq_true, beq_iff_eq, decide_eq_true_eq] at hc
      obtain ⟨⟨⟨hx, hb⟩, hn⟩, hk⟩ := hc
      subst hx
      obtain ⟨fa, h1, rfl⟩ := map_some q
      exact si_range1 (gl_of h hk) (h.bis _ hb) (S.E h h1) (star_no hn)
    · obtain ⟨fa, h1, rfl⟩ := map_some q
      exact si_seq (S.E h h1)
  · rename_i x p a b p2
    split at q
    · rename_i hc
      simp only [Bool.and_eq_true, beq_iff_eq, decide_eq_true_eq] at hc
      obtain ⟨⟨⟨⟨hx, hb⟩, hn⟩, hn2⟩, hk⟩ := hc
      subst hx
      obtain ⟨fa, h1, q⟩ := bind_some q
      obtain ⟨fb, h2, rfl⟩ := map_some q
      exact si_range2 (gl_of h hk) (h.bis _ hb) (S.E h h1) (S.E h h2) ((star_no hn).trans (by rw [star_no hn2]; rfl)) (star_no hn2)
    · split at q
      · rename_i hc
        simp only [Bool.and_eq_true, beq_iff_eq, decide_eq_true_eq] at hc
        obtain ⟨⟨⟨⟨⟨hx, hb⟩, hn⟩, hn2⟩, ht⟩, hk⟩ := hc
        subst hx
        obtain ⟨fa, h1, q⟩ := bind_some q
        obtain ⟨fb, h2, rfl⟩ := map_some q
        cases tg with
        | Tuple es k pp => exact si_zipM (gl_of h hk) (h.bis _ hb) (S.E h h1) (S.E h h2) (star_no hn) (star_no hn2)
        | _ => cases ht
      · obtain ⟨fa, h1, rfl⟩ := map_some q
        exact si_seq (S.E h h1)
  · obtain ⟨fa, h1, rfl⟩ := map_some q
    exact si_seq (S.E h h1)
def step (R : Comp) : Comp := ⟨stepE R, stepT R, stepB R, stepV R, stepA R, stepI R⟩
theorem step_ok {R : Comp} (S : Snd R) : Snd (step R) := ⟨fun h q => stepE_ok S h q, fun h q => stepT_ok S h q, fun h q => stepB_ok S h q, fun h q => stepV_ok S h q, fun h q => stepA_ok S h q, fun h q => stepI_ok S h q⟩
def comp : Nat → Comp
  | 0 => comp0
  | n + 1 => step (comp n)
theorem comp_ok : ∀ n, Snd (comp n)
  | 0 => snd0
  | n + 1 => step_ok (comp_ok n)
end EV

namespace EV
open PySem L2 PySem.Spec PyProof.Rows
/-! ### statements -/
structure CsOk (X : Cx) (W : WX) (c : Cc) : Prop extends CcOk X W c where
  ow : PassesOwn (model X.prog X.w) X.A X.env X.xe
def isFn (sc : Scope) : Bool := match sc.kind with
  | .function => true
  | _ => false
theorem isFn_ok {sc : Scope} (h : isFn sc = true) : sc.kind = .function := by
  unfold isFn at h
  split at h
  · assumption
  · cases h
theorem swS_of {ts : List Expr} {k : Nat} {pt : Pos} {e : Expr} {env : PySem.Env} (h : isTupE e = false) : swappedStores [.Tuple ts k pt] e env = pure none := by
  cases e <;> first | rfl | cases h
theorem swSub_of {o i e : Expr} {p : Pos} {env : PySem.Env} : swappedStores [.Subscript o i p] e env = pure none := by
  cases e <;> rfl
theorem swSole_tup {ts : List Expr} {k : Nat} {pt : Pos} {e : Expr} {l : Nat} {env : PySem.Env} : swapsWithSole [.Tuple ts k pt] e l env = pure false := by
  cases e <;> rfl
theorem swSole_sub {o i e : Expr} {p : Pos} {l : Nat} {env : PySem.Env} : swapsWithSole [.Subscript o i p] e l env = pure false := by
  cases e <;> rfl
theorem swS_long {ts vs : List Expr} {k k2 : Nat} {pt p2 : Pos} {env : PySem.Env} (h : (!(ts.length == 2 || ts.length == 3)) = true) : swappedStores [.Tuple ts k pt] (.Tuple vs k2 p2) env = pure none := by
  unfold swappedStores
  simp only [h, Bool.true_or]
  rfl
def okPar (c : Cc) (x y : Str) (px py : Pos) (a b : Expr) : Bool :=
  isFn c.sc && (c.sc.names.lookup x == some .local) && (c.sc.names.lookup y == some .local) && (py.line == px.line) && !(x == y) && notStar a && notStar b && !(foldedForSure 8 a && foldedForSure 8 b) && !(constantsAlone 8 a && constantsAlone 8 b)
theorem swS2 {x y : Str} {px py pt pt2 : Pos} {kt k2 : Nat} {a b : Expr} {env : PySem.Env} (hk : env.scope.kind = .function) (hx : env.scope.names.lookup x = some .local) (hy : env.scope.names.lookup y = some .local) (hl : (py.line == px.line) = true) (hxy : (x == y) = false)
    (na : notStar a = true) (nb : notStar b = true) (h1 : (foldedForSure 8 a && foldedForSure 8 b) = false) (h2 : (constantsAlone 8 a && constantsAlone 8 b) = false) :
    swappedStores [.Tuple [.Name x px, .Name y py] kt pt] (.Tuple [a, b] k2 pt2) env = pure (some [x, y]) := by
  have kx : env.kindOf x = some .local := hx
  have ky : env.kindOf y = some .local := hy
  have hb : env.blockKind = .function := by unfold Env.blockKind; rw [hk]; rfl
  have st : ([a, b].any fun | .Starred .. => true | _ => false) = false := by
    cases a <;> first | (cases na; done) | (cases b <;> first | (cases nb; done) | rfl)
  have hyx : (y == x) = false := by
    rw [beq_eq_false_iff_ne] at hxy ⊢
    exact fun z => hxy z.symm
  have f1 : [a, b].all (foldedForSure 8) = false := by simpa using h1
  have f2 : [a, b].all (constantsAlone 8) = false := by simpa using h2
  unfold swappedStores
  simp only [st, f1, f2, hb]
  simp [kx, ky, hl, Expr.pos, List.filterMap, List.eraseDups, List.eraseDupsBy, List.eraseDupsBy.loop, hyx, hxy]
  rintro (z | z)
  · exfalso; cases a <;> first | (cases z; done) | (cases na; done)
  · exfalso; cases b <;> first | (cases z; done) | (cases nb; done)
/-- a name that is no plain local one: no stores are swapped -/
def noSwap (c : Cc) (ts vs : List Expr) : Bool := match ts with
  | .Name x px :: r => (!(c.sc.names.lookup x == some .local)) || (match r with
      | .Name y py :: _ => (!(c.sc.names.lookup y == some .local))
      | _ => false)
  | _ => false
theorem fm_lt {α β : Type} (g : α → Option β) : ∀ l : List α, (∃ x ∈ l, g x = none) → (l.filterMap g).length < l.length
  | [], h => by obtain ⟨x, hx, _⟩ := h; cases hx
  | y :: l, h => by
    have le := List.length_filterMap_le g l
    cases e : g y with
    | none => rw [List.filterMap_cons_none e]; exact Nat.lt_succ_of_le le
    | some z =>
      rw [List.filterMap_cons_some e]
      obtain ⟨x, hx, hg⟩ := h
      rcases List.mem_cons.mp hx with rfl | hx
      · rw [e] at hg; cases hg
      · exact Nat.succ_lt_succ (fm_lt g l ⟨x, hx, hg⟩)
theorem swS_no {c : Cc} {ts vs : List Expr} {k k2 : Nat} {pt p2 : Pos} {env : PySem.Env} (hc : env.scope = c.sc) (h : noSwap c ts vs = true) : swappedStores [.Tuple ts k pt] (.Tuple vs k2 p2) env = pure none := by
  have kk : ∀ x, env.kindOf x = c.sc.names.lookup x := fun x => by show env.scope.names.lookup x = _; rw [hc]
  have hlt : ∀ (l : Nat), (ts.filterMap fun | .Name id pos => if env.kindOf id == some .local && pos.line == l then some id else none | _ => none).length < ts.length := fun l => by
    refine fm_lt _ ts ?_
    unfold noSwap at h
    split at h
    · rename_i x px r
      simp only [Bool.or_eq_true, Bool.not_eq_true'] at h
      rcases h with h | h
      · exact ⟨_, List.mem_cons_self, by simp only [kk, h, Bool.false_and]; rfl⟩
      · split at h
        · simp only [Bool.not_eq_true'] at h
          exact ⟨_, List.mem_cons_of_mem _ List.mem_cons_self, by simp only [kk, h, Bool.false_and]; rfl⟩
        · cases h
    · cases h
  unfold swappedStores
  simp only
  split
  · rfl
  · split
    · rfl
    · split
      · rfl
      · rename_i hn
        exfalso
        apply hn
        simp only [Bool.or_eq_true, bne_iff_ne]
        exact .inl (Nat.ne_of_lt (hlt ((ts.head?.map (·.pos.line)).getD 0)))
def augG : Operator → Option (Int → Int → Int)
  | .Add => some fun i j => i + j
  | .Sub => some fun i j => i - j
  | _ => none
theorem augG_ok {X : Cx} {op : Operator} {g : Int → Int → Int} (h : augG op = some g) : PIp X op (ipI g) := by
  cases op <;> cases h
  · exact ip_add
  · exact ip_sub
structure CompS where
  S : Cc → Stmt → Option FS
  L : Cc → List Stmt → Option FS
structure SndS (M : CompS) : Prop where
  S : ∀ {X W c e f}, CsOk X W c → M.S c e = some f → PS X e (RS X.K W f)
  L : ∀ {X W c e f}, CsOk X W c → M.L c e = some f → PSs X e (RS X.K W f)
def kSetN (R : Comp) (c : Cc) (x : Str) (px : Pos) (e : Expr) : Option FS := match e with
  | .ListComp elt gs scope pos => match gs with
    | [g] => if (decide (g.is_async = 0) && isFn c.sc && (c.sc.names.lookup x == some .local) && (px.line == pos.line) && !(scope.names.any fun (n, k) => n == x && (k == .local || k == .cell))) = true then
        (ixOf x c.N).bind fun i => (kLc (decide (pos ∈ c.mu)) R c elt g.target g.iter g.ifs scope).map fun f => sSet i f
      else none
    | _ => none
  | e => if (notComp e) = true then (kNames c [.Name x px]).bind fun is => match is with
      | [i] => (R.E c e).map fun f => sSet i f
      | _ => none
    else none
def kAsg (R : Comp) (c : Cc) (t e : Expr) : Option FS := match t with
  | .Name x px => kSetN R c x px e
  | .Tuple ts _ _ => if isTupE e = true then (match ts, e with
      | [.Name x px, .Name y py], .Tuple [a, b] _ _ => if okPar c x y px py a b = true then (ixOf x c.N).bind fun i => (ixOf y c.N).bind fun j => if i = j then none else (R.E c a).bind fun fa => (R.E c b).map fun fb => sPar i j fa fb else
          if noSwap c [.Name x px, .Name y py] [a, b] = true then (kNames c [.Name x px, .Name y py]).bind fun is => (R.E c e).map fun f => sTup (.tp is) f else none
      | ts, .Tuple vs k2 p2 => if (!(ts.length == 2 || ts.length == 3) || noSwap c ts vs) = true then (kNames c ts).bind fun is => (R.E c (.Tuple vs k2 p2)).map fun f => sTup (.tp is) f else none
      | _, _ => none) else (kNames c ts).bind fun is => (R.E c e).map fun f => sTup (.tp is) f
  | .Subscript o i _ => if notSlice i = true then (R.E c o).bind fun fo => (R.E c i).bind fun fi => (R.E c e).map fun fe => sPut fo fi fe else none
  | _ => none
def stepS (R : Comp) (M : CompS) (c : Cc) : Stmt → Option FS
  | .Return (some e) _ => (R.E c e).map sRet
  | .Return none _ => some sRetN
  | .Expr e _ => if notComp e = true then (R.E c e).map sDrop else none
  | .Assign [t] e _ => kAsg R c t e
  | .AugAssign (.Name x px) op e _ => (augG op).bind fun g => (kNames c [.Name x px]).bind fun is => match is with
      | [i] => (R.E c e).map fun f => sAug i g f
      | _ => none
  | .If t a b _ => (R.T c t).bind fun ft => (M.L c a).bind fun fa => (M.L c b).map fun fb => sIf ft fa fb
  | .For tg it body [] _ => if notSet it = true then (R.I c tg it).bind fun fi => (kTgt c tg).bind fun t => (M.L c body).map fun f => sFor fi t f else none
  | .While t body [] _ => (R.T c t).bind fun ft => (M.L c body).map fun f => sWhile ft f
  | .Pass _ => some sNext
  | .Break _ => some sBrk
  | .Continue _ => some sCnt
  | .Raise _ _ _ => some sStuck
  | _ => none
def stepL (M : CompS) (c : Cc) : List Stmt → Option FS
  | [] => some sNext
  | s :: r => (M.S c s).bind fun f => (M.L c r).map fun g => sSeq f g
theorem nm1 {X : Cx} {c : Cc} {W : WX} (h : CcOk X W c) {x : Str} {px : Pos} {i : Nat} (q : kNames c [.Name x px] = some [i]) : X.N[i]? = some x ∧ Loc X.env.scope x ∧ (X.fn x = true ∨ X.env.scope.names.lookup x = some .local) := by
  have N := kNames_ok h q
  cases N with
  | cons hi hx hf r => exact ⟨hi, hx, hf⟩
theorem kSetN_ok {R : Comp} (S : Snd R) {X : Cx} {W : WX} {c : Cc} (h : CsOk X W c) {x : Str} {px pos : Pos} {e : Expr} {f : FS} (q : kSetN R c x px e = some f) : PS X (.Assign [.Name x px] e pos) (RS X.K W f) := by
  have hN : X.N.Nodup := by rw [h.N]; exact h.nd
  unfold kSetN at q
  split at q
  · rename_i elt gs scope lp
    split at q
    · rename_i g
      split at q
      · rename_i hc
        simp only [Bool.and_eq_true, beq_iff_eq, decide_eq_true_eq, Bool.not_eq_true'] at hc
        obtain ⟨⟨⟨⟨h0, hk⟩, hx⟩, hl⟩, ha⟩ := hc
        obtain ⟨i, hi, q⟩ := bind_some q
        obtain ⟨fe, h1, rfl⟩ := map_some q
        obtain ⟨tg, it, ifs, n⟩ := g
        simp only at h0 h1
        subst h0
        obtain ⟨fi, t, ft, fe', own, p1, p2, p3, p4, p5, p6, p7, rfl⟩ := kLc_parts S h.toCcOk h1
        have hx2 : X.env.scope.names.lookup x = some .local := by rw [h.sc]; exact hx
        have hsw := fun l => sw_true (elt := elt) (gs := [⟨tg, it, ifs, 0⟩]) (l := l) (env := X.env) (by rw [h.sc]; exact isFn_ok hk) hx2 (py := px) (pos := lp) (by rw [hl]; exact beq_self_eq_true _) ha
        split
        · exact ss_setLcM h.calm hN (by rw [h.N]; exact ixOf_ok hi) hx2 (hsw _) p1 p2 p3 p4 p5 p6 p7
        · exact ss_setLc h.calm hN (by rw [h.N]; exact ixOf_ok hi) hx2 (hsw _) p1 p2 p3 p4 p5 p6 p7
      · cases q
    · cases q
  · split at q
    · rename_i hc
      obtain ⟨is, h1, q⟩ := bind_some q
      split at q
      · rename_i i
        obtain ⟨fe, h2, rfl⟩ := map_some q
        obtain ⟨a1, a2, a3⟩ := nm1 h.toCcOk h1
        exact ss_set hN a1 a2 (S.E h.toCcOk h2) (swap_of hc) a3
      · cases q
    · cases q
theorem kAsg_ok {R : Comp} (S : Snd R) {X : Cx} {W : WX} {c : Cc} (h : CsOk X W c) {t e : Expr} {pos : Pos} {f : FS} (q : kAsg R c t e = some f) : PS X (.Assign [t] e pos) (RS X.K W f) := by
  have hN : X.N.Nodup := by rw [h.N]; exact h.nd
  unfold kAsg at q
  split at q
  · exact kSetN_ok S h q
  · rename_i ts k pt
    split at q
    · split at q
      · rename_i x px y py a b k2 p2 _
        split at q
        · rename_i hc
          obtain ⟨i, hi, q⟩ := bind_some q
          obtain ⟨j, hj, q⟩ := bind_some q
          split at q
          · cases q
          · rename_i hij
            obtain ⟨fa, h1, q⟩ := bind_some q
            obtain ⟨fb, h2, rfl⟩ := map_some q
            unfold okPar at hc
            simp only [Bool.and_eq_true, Bool.not_eq_true', beq_iff_eq] at hc
            obtain ⟨⟨⟨⟨⟨⟨⟨⟨c1, c2⟩, c3⟩, c4⟩, c5⟩, c6⟩, c7⟩, c8⟩, c9⟩ := hc
            have hx2 : X.env.scope.names.lookup x = some .local := by rw [h.sc]; exact c2
            have hy2 : X.env.scope.names.lookup y = some .local := by rw [h.sc]; exact c3
            exact ss_par h.calm hN (by rw [h.N]; exact ixOf_ok hi) (by rw [h.N]; exact ixOf_ok hj) hij hx2 hy2 (S.E h.toCcOk h1) (S.E h.toCcOk h2) (star_no c6) (star_no c7)
              (swS2 (by rw [h.sc]; exact isFn_ok c1) hx2 hy2 (by rw [c4]; exact beq_self_eq_true _) c5 c6 c7 c8 c9) swSole_tup
        · split at q
          · rename_i hl
            obtain ⟨is, h1, q⟩ := bind_some q
            obtain ⟨fe, h2, rfl⟩ := map_some q
            exact ss_tup (pg_tgt h.calm hN (kNames_ok h.toCcOk h1)) (S.E h.toCcOk h2) swSole_tup (swS_no h.sc hl)
          · cases q
      · split at q
        · rename_i hl
          obtain ⟨is, h1, q⟩ := bind_some q
          obtain ⟨fe, h2, rfl⟩ := map_some q
          refine ss_tup (pg_tgt h.calm hN (kNames_ok h.toCcOk h1)) (S.E h.toCcOk h2) swSole_tup ?_
          rw [Bool.or_eq_true] at hl
          rcases hl with hl | hl
          · exact swS_long hl
          · exact swS_no h.sc hl
        · cases q
      · cases q
    · rename_i ht
      obtain ⟨is, h1, q⟩ := bind_some q
      obtain ⟨fe, h2, rfl⟩ := map_some q
      exact ss_tup (pg_tgt h.calm hN (kNames_ok h.toCcOk h1)) (S.E h.toCcOk h2) swSole_tup (swS_of (Bool.eq_false_iff.mpr ht))
  · rename_i o i p2
    split at q
    · rename_i hn
      obtain ⟨fo, h1, q⟩ := bind_some q
      obtain ⟨fi, h2, q⟩ := bind_some q
      obtain ⟨fe, h3, rfl⟩ := map_some q
      have A := S.E (W := W) h.toCcOk h1
      have B := S.E (W := W) h.toCcOk h2
      exact ss_put (S.E h.toCcOk h3) A B (pg_sub A B set_list (by intro v; cases i <;> first | rfl | (cases hn; done))) swSole_sub swSub_of
    · cases q
  · cases q
theorem stepS_ok {R : Comp} (S : Snd R) {M : CompS} (T : SndS M) {X : Cx} {W : WX} {c : Cc} {st : Stmt} {f : FS} (h : CsOk X W c) (q : stepS R M c st = some f) : PS X st (RS X.K W f) := by
  have hN : X.N.Nodup := by rw [h.N]; exact h.nd
  unfold stepS at q
  split at q
  · obtain ⟨fe, h1, rfl⟩ := map_some q; exact ss_ret (S.E h.toCcOk h1)
  · cases q; exact ss_retN
  · split at q
    · rename_i hc
      obtain ⟨fe, h1, rfl⟩ := map_some q
      exact ss_drop (S.E h.toCcOk h1) (swap_of hc)
    · cases q
  · exact kAsg_ok S h q
  · obtain ⟨g, hg, q⟩ := bind_some q
    obtain ⟨is, h1, q⟩ := bind_some q
    split at q
    · obtain ⟨fe, h2, rfl⟩ := map_some q
      obtain ⟨a1, a2, a3⟩ := nm1 h.toCcOk h1
      exact ss_aug hN a1 a2 (S.E h.toCcOk h2) (augG_ok hg) a3
    · cases q
  · obtain ⟨ft, h1, q⟩ := bind_some q
    obtain ⟨fa, h2, q⟩ := bind_some q
    obtain ⟨fb, h3, rfl⟩ := map_some q
    exact ss_if (S.T h.toCcOk h1) (T.L h h2) (T.L h h3)
  · split at q
    · rename_i hs
      obtain ⟨fi, h1, q⟩ := bind_some q
      obtain ⟨t, h2, q⟩ := bind_some q
      obtain ⟨fb, h3, rfl⟩ := map_some q
      exact ss_for h.ow h.calm (S.I h.toCcOk h1) (kTgt_ok h.toCcOk h2) (T.L h h3) (folded_of hs)
    · cases q
  · obtain ⟨ft, h1, q⟩ := bind_some q
    obtain ⟨fb, h3, rfl⟩ := map_some q
    exact ss_while h.ow (S.T h.toCcOk h1) (T.L h h3)
  · cases q; exact ss_pass
  · cases q; exact ss_brk
  · cases q; exact ss_cnt
  · cases q; exact ss_never
  · cases q
theorem stepL_ok {M : CompS} (T : SndS M) {X : Cx} {W : WX} {c : Cc} {st : List Stmt} {f : FS} (h : CsOk X W c) (q : stepL M c st = some f) : PSs X st (RS X.K W f) := by
  cases st with
  | nil => cases q; exact ss_nil
  | cons s r =>
    obtain ⟨fa, h1, q⟩ := bind_some q
    obtain ⟨fb, h2, rfl⟩ := map_some q
    exact ss_cons (T.S h h1) (T.L h h2)
def compS (R : Comp) : Nat → CompS
  | 0 => ⟨fun _ _ => none, fun _ _ => none⟩
  | n + 1 => ⟨stepS R (compS R n), stepL (compS R n)⟩
theorem compS_ok {R : Comp} (S : Snd R) : ∀ n, SndS (compS R n)
  | 0 => ⟨fun _ q => (by cases q), fun _ q => (by cases q)⟩
  | n + 1 => ⟨fun h q => stepS_ok S (compS_ok S n) h q, fun h q => stepL_ok (compS_ok S n) h q⟩
end EV

namespace EV
open PySem L2 PySem.Spec PyProof.Rows
/-! ### a def's promise: its shallow body -/
def startD (N : List Str) (ds : List D) : Env := ds.map some ++ List.replicate (N.length - ds.length) none
def endD : FR → Res D
  | .nx _ S => .ok .non S
  | .rt d S => .ok d S
  | .exc e _ S => .exc e S
  | _ => .stuck
def fcOf (N : List Str) (n : Nat) (fs : FS) : FC := fun ds S => if ds.length = n then endD (fs (startD N ds) S) else .stuck
def fcStar (N : List Str) (n : Nat) (fs : FS) : FC := fun ds S => if (decide (n ≤ ds.length) && sz (ds.length - n)) = true then endD (fs (startD N (ds.take n ++ [.tup (ds.drop n)])) S) else .stuck
structure MdOk (P : Program) (w : World) (K : PySem.W.Frag) (mg : Str → Option Value) (base : Heap) (k : Nat) (c : Cc) : Prop where
  bis : ∀ x ∈ c.bis, mg x = none
  kon : ∀ p ∈ c.kon, ∃ u, mg p.1 = some u ∧ RelV p.2 u
  defs : ∀ p ∈ c.defs, ∃ f, mg p.1 = some (.ref f) ∧ PySem.W.keepIn K (.ref f) = true ∧ FnG P w K mg base (L2.CX P w) k f (spD K p.2)
section
variable {P : Program} {w : World} {K : PySem.W.Frag} {mg : Str → Option Value} {base : Heap} {k : Nat} {c : Cc}
theorem cs_of (M : MdOk P w K mg base k c) {qual : Str} {f : Addr} {cd : Value} {A : Around} {outer : List PySem.Env} {s : Shared} {H : Hp} {E : XK} (hnd : c.N.Nodup) (ho : c.own = c.sc) (hr : Room k (A.deeper (envOfC qual c.sc s.heap.objs.size f cd))) (hg : A.guards = some []) :
    CsOk (cxOf (L2.CX P w) P w K mg base c.N qual c.sc f cd A outer s H E) (fun cls d _ H' => E cls d H') c where
  N := rfl
  nd := hnd
  sc := rfl
  calm := rfl
  u := by
    have := hr.un
    show (A.deeper (envOfC qual c.sc s.heap.objs.size f cd)).units + 128 < cLine
    omega
  gu := hg
  pas := fun σ => passAt (takes_of rfl rfl rfl rfl) σ
  fn := fun x hx => by rw [ho] at hx; exact ⟨hx, .inl rfl⟩
  bis := M.bis
  kon := M.kon
  defs := fun p hp => by
    obtain ⟨g, h1, h2, h3⟩ := M.defs p hp
    exact ⟨k, g, h1, h2, hr, h3⟩
  ow := passes_of rfl
theorem relE_start {ι : Lay} {H : Hp} {N : List Str} {ds : List D} {vs : List V} (r : RelDs K ι H ds vs) : RelE K ι H (L2.start N vs) (startD N ds) := by
  have hl := r.length
  refine ⟨by simp [L2.start, startD, hl], fun i d q => ?_⟩
  unfold startD at q
  by_cases hi : i < ds.length
  · rw [List.getElem?_append_left (by simpa using hi), List.getElem?_map] at q
    cases e : ds[i]? with
    | none => rw [e] at q; cases q
    | some d' =>
      rw [e] at q
      cases q
      obtain ⟨x, h1, h2⟩ := r.get e
      exact ⟨x, by unfold L2.start; rw [List.getElem?_append_left (by simp [hl]; exact hi), List.getElem?_map, h1]; rfl, h2⟩
  · rw [List.getElem?_append_right (by simpa using hi)] at q
    have := List.getElem?_eq_some_iff.mp q
    simp at this
theorem rs_body {ι : Lay} {H : Hp} {S : Sto} {N : List Str} {ds : List D} {vs : List V} {fs : FS} {Q : VK} {E : XK} (hS : RelS K ι H S) (r : RelDs K ι H ds vs)
    (hp : Post K (fun c d _ H' => E c d H') [] ι H (endD (fs (startD N ds) S)) fun ι' H' d _ => ∀ v, RelD K ι' H' d v → Q v H') :
    RS K (fun cls d _ H' => E cls d H') fs { nx := fun _ H' => Q .non H', rt := Q } (L2.start N vs) H := by
  refine ⟨ι, startD N ds, S, hS, relE_start r, ?_⟩
  cases hf : fs (startD N ds) S with
  | nx ρ S' => rw [hf] at hp; exact fun ι' H' σ' e s _ => hp ι' H' e s .non relD_non
  | rt d S' => rw [hf] at hp; exact fun ι' H' v e s rv => hp ι' H' e s v rv
  | bk ρ S' => rw [hf] at hp; exact hp.elim
  | ct ρ S' => rw [hf] at hp; exact hp.elim
  | exc x ρ S' => rw [hf] at hp; exact fun ι' H' σ' cc d e s _ rx => hp ι' H' cc d e s rx
  | stuck => rw [hf] at hp; exact hp.elim
theorem fnD {name qual : Str} {params : Arguments} {body : List Stmt} {dV kV doc pm cdv ct oc : Value} {an od : Option Addr} {osl : Array (Option Value)} {f : Addr} {ps : List Str} {fs : FS} {n m : Nat}
    (lk : K.lookup f = some ⟨oc, od, .func (PySem.W.fnOf name qual params body c.sc dV kV doc pm an cdv ct), osl⟩) (hcd : PySem.W.codeIn K cdv qual = true) (S : FnScope c.N ps c.sc) (ho : c.own = c.sc)
    (hb : ∀ us : List Value, us.length = ps.length → bindArgs (PySem.W.fnOf name qual params body c.sc dV kV doc pm an cdv ct) ⟨us, []⟩ = pure (ps.zip us)) (M : MdOk P w K mg base k c) (hc : (compS (comp n) m).L c body = some fs) :
    FnG P w K mg base (L2.CX P w) (k + 1) f (spD K (fcOf c.N ps.length fs)) := by
  intro A outer s H us vs Q E hr hgu e0 r hsp
  obtain ⟨ι, S0, ds, hS, hd, hp⟩ := hsp
  unfold fcOf at hp
  split at hp
  case isFalse => exact hp.elim
  rename_i hl
  have hlv : vs.length = ps.length := by rw [hd.length]; exact hl
  have hlu : us.length = ps.length := by rw [← r.length]; exact hlv
  refine StX.run_bnd lk hcd S hr e0 (G := fun xs H2 => xs = vs ∧ H2 = H) (fun A' Ex Q' h => ?_) fun s2 H2 xs g hr' => ?_
  · rw [hb us hlu]
    exact wpAny_pure (h s H vs us e0 Un.refl rfl (fun _ _ z => z) r hlv ⟨rfl, rfl⟩)
  · obtain ⟨rfl, rfl⟩ := g
    exact ⟨_, (compS_ok (comp_ok n) m).L (cs_of M S.nd ho hr' hgu) hc, rs_body hS hd hp⟩
/-- .. with a star parameter -/
theorem fnDs {name qual : Str} {params : Arguments} {body : List Stmt} {dV kV doc pm cdv ct oc : Value} {an od : Option Addr} {osl : Array (Option Value)} {f : Addr} {ps : List Str} {pv : Str} {fs : FS} {n m : Nat}
    (lk : K.lookup f = some ⟨oc, od, .func (PySem.W.fnOf name qual params body c.sc dV kV doc pm an cdv ct), osl⟩) (hcd : PySem.W.codeIn K cdv qual = true) (S : FnScope c.N (ps ++ [pv]) c.sc) (ho : c.own = c.sc)
    (hb : ∀ us rest : List Value, us.length = ps.length → bindArgs (PySem.W.fnOf name qual params body c.sc dV kV doc pm an cdv ct) ⟨us ++ rest, []⟩ = (newTuple rest >>= fun t => pure (ps.zip us ++ [(pv, t)]))) (M : MdOk P w K mg base k c)
    (hc : (compS (comp n) m).L c body = some fs) : FnG P w K mg base (L2.CX P w) (k + 1) f (spD K (fcStar c.N ps.length fs)) := by
  intro A outer s H us vs Q E hr hgu e0 r hsp
  obtain ⟨ι, S0, ds, hS, hd, hp⟩ := hsp
  unfold fcStar at hp
  split at hp
  case isFalse => exact hp.elim
  rename_i hl
  simp only [Bool.and_eq_true, decide_eq_true_eq] at hl
  obtain ⟨hl, hz⟩ := hl
  have lv := hd.length
  have ev : vs = vs.take ps.length ++ vs.drop ps.length := (List.take_append_drop _ _).symm
  rw [ev] at r
  obtain ⟨u1, u2, eu, r1, r2⟩ := StX.vals_split r
  subst eu
  have l1 : u1.length = ps.length := by rw [← r1.length, List.length_take]; omega
  have l1' : (vs.take ps.length).length = ps.length := by rw [List.length_take]; omega
  have l2 : u2.length ≤ sizeLine := by
    rw [← r2.length, List.length_drop, lv]
    exact sz_ok hz
  have hn : H s.heap.objs.size = none := e0.hok.fresh (Nat.le_refl _)
  refine StX.run_bnd lk hcd S hr e0 (G := fun xs H2 => ∃ p, H p = none ∧ xs = vs.take ps.length ++ [V.ref p] ∧ H2 = upd H p (.tup (vs.drop ps.length))) (fun A' Ex Q' h => ?_) fun s2 H2 xs g hr' => ?_
  · rw [hb u1 u2 l1]
    refine wpAny_bind (wpAny_newTuple (wpAny_pure ?_) l2)
    let ob : Obj := { cls := .type "tuple", data := .seq u2.toArray }
    have isT : IsTup (s.heap.push ob) s.heap.objs.size u2.toArray := ⟨ob, Heap.get?_push_size _ rfl, rfl, _, rfl⟩
    have new : ObjOk P w (upd H s.heap.objs.size (.tup (vs.drop ps.length))) (s.heap.push ob) s.heap.objs.size (.tup (vs.drop ps.length)) := ⟨by rw [r2.length]; exact l2, u2, r2, isT⟩
    have un := StX.un_laid (fs := frs outer) (s := s) (o := ob) (u := .tup (vs.drop ps.length)) hn
    have up : ∀ e s', L2.CX P w outer (upd H s.heap.objs.size (.tup (vs.drop ps.length))) { s with heap := s.heap.push ob } E e s' → L2.CX P w outer H s E e s' := fun e s' => StX.cxUp outer s H _ _ E e s' un (fun b o q => Heap.get?_push_of_some _ q) rfl
    have z := h { s with heap := s.heap.push ob } _ (vs.take ps.length ++ [V.ref s.heap.objs.size]) (u1 ++ [Value.ref s.heap.objs.size]) (StX.env0_laid e0 new) un rfl up (r1.append (.cons rfl .nil)) (by simp [l1']) ⟨_, hn, rfl, rfl⟩
    rw [List.zip_append l1.symm] at z
    exact z
  · obtain ⟨p, hpn, rfl, rfl⟩ := g
    have e1 := ext_new (o := .tup (vs.drop ps.length)) hS hpn
    have t1 : RelD K ι (upd H p (.tup (vs.drop ps.length))) (.tup (ds.drop ps.length)) (.ref p) := relD_tup_new (hS.fresh hpn) upd_same ((hd.drop _).mono e1)
    exact ⟨_, (compS_ok (comp_ok n) m).L (cs_of M S.nd ho hr' hgu) hc, rs_body (hS.new hpn) (((hd.take _).mono e1).append (.cons t1 .nil)) (Post.mono e1 hp)⟩
end
end EV

namespace EV
open PySem L2 PySem.Spec PyProof.Rows
/-! ### the law's own call -/
def relNs (K : PySem.W.Frag) : ∀ (ns : List Int), RelDs K ⟨[], []⟩ Hn (ns.map D.int) (ns.map V.int)
  | [] => RelDs.nil
  | n :: ns => .cons (relD_int n) (relNs K ns)
theorem relNs' {K : PySem.W.Frag} {ι : Lay} {H : Hp} : ∀ (ns : List Int), RelDs K ι H (ns.map D.int) (ns.map V.int)
  | [] => RelDs.nil
  | n :: ns => .cons (relD_int n) (relNs' ns)
theorem relS_nil {K : PySem.W.Frag} {H : Hp} : RelS K ⟨[], []⟩ H [] := ⟨rfl, List.nodup_nil, fun n c q => (by simp at q), fun a ha => (by cases ha)⟩
/-- the law's def, called with the script, gives True -/
theorem lawG {P : Program} {w : World} {K : PySem.W.Frag} {mg mb : Str → Option Value} {k : Nat} {fa a : Addr} {FL : FC} {t : Shared} {us : List Value} {ns : List Int}
    (kin : K.In t.heap) (g1 : t.heap.Ns mainGlobals mg) (g2 : t.heap.Ns builtinsNs mb) (g3 : ∀ x : Str, x ≠ "__name__" → mb x = bootBuiltins x) (nl : t.heap.NoLimit) (gn : t.gens = #[])
    (ob : t.heap.get? a = some { cls := .type "list", data := .seq us.toArray }) (ia : IntsAre us ns) (sl : ns.length ≤ sizeLine) (rm : Room k callerA)
    (G : ∀ B : Heap, K.In B → B.Ns mainGlobals mg → FnG P w K mg B (L2.CX P w) k fa (spD K FL)) (eq : ∃ S', FL [.frz (ns.map D.int)] [] = .ok (.bl true) S') :
    codeAny (model P w) callerA (.call (.ref fa) ⟨[.ref a], []⟩) (fun r t' => r = .ok (.ret (.bool true)) ∧ OldK t.heap t'.heap ∧ t'.os = t.os ∧ AllBare t'.gens) t := by
  obtain ⟨S', eq⟩ := eq
  have rv := vals_ints ia
  have len : us.length = ns.length := ia.length
  have run : ∀ H : Hp, Only H → (((⟨[], []⟩ : Lay).ok a ∧ Rd H a (.lst (ns.map V.int))) ∨ SqL K Hn a (ns.map V.int)) → HOk P w H t.heap → (∀ b, H b ≠ none → b = a) → (H a ≠ none → K.lookup a = none) →
      codeAny (model P w) callerA (.call (.ref fa) ⟨[.ref a], []⟩) (fun r t' => r = .ok (.ret (.bool true)) ∧ OldK t.heap t'.heap ∧ t'.os = t.os ∧ AllBare t'.gens) t := by
    intro H only seq ok at_ nk
    have keep : ∀ {b : Addr} {o : Obj}, t.heap.get? b = some o → H b = none → (hidT t.heap H).get? b = some o := fun e n => hidT_get e n
    have free : ∀ {b : Addr} {o : Obj} {es : Array DictEntry} {ep : Nat}, t.heap.get? b = some o → o.data = .dict es ep → H b = none := fun {b o es ep} e d => by
      cases q : H b with
      | none => rfl
      | some v =>
        obtain rfl : b = a := at_ b (by rw [q]; exact nofun)
        rw [ob] at e
        cases e
        exact absurd (show Data.seq us.toArray _ = Data.dict es ep from d) nofun
    have space : ∀ {b : Addr} {m : Str → Option Value}, t.heap.Ns b m → (hidT t.heap H).Ns b m := fun {b m} ⟨o, es, ep, e, d, r⟩ => ⟨o, es, ep, keep e (free e d), d, r⟩
    have kb : K.In (hidT t.heap H) := fun b o e => keep (kin b o e) (by
      cases q : H b with
      | none => rfl
      | some v =>
        obtain rfl : b = a := at_ b (by rw [q]; exact nofun)
        rw [nk (by rw [q]; exact nofun)] at e
        cases e)
    have lim : (hidT t.heap H).NoLimit := let ⟨mc, h1, h2⟩ := nl; ⟨mc, space h1, h2⟩
    have env : Env0 P w K mg (hidT t.heap H) callerA [] t H :=
      ⟨rfl, ⟨kb, space g1, ⟨mb, space g2, g3⟩, lim⟩, fun b o e => of_hidT e, Nat.le_of_eq (hidT_size _ _), trivial, fun b hb => (by cases hb), ok, .of_eq gn⟩
    have sp : spD K FL [.ref a] H (fun v _ => v = .bl true) fun _ _ _ => False :=
      ⟨⟨[], []⟩, [], [.frz (ns.map D.int)], relS_nil, .cons (by simp only [RelD]; exact ⟨a, _, rfl, seq, relNs' ns⟩) .nil, by rw [eq]; exact fun ι' H' e s v rv => by simpa only [RelD] using rv⟩
    refine codeAny_mono (G _ kb (space g1) callerA [] t H [.ref a] [.ref a] _ _ rm rfl env (.cons rfl .nil) sp) fun r t' h => ?_
    cases r with
    | error e =>
      obtain ⟨_, _, _, _, _, _, _, _, _, _, _, _, z⟩ := h
      exact z.elim
    | ok fl =>
      cases fl with
      | ret u =>
        obtain ⟨v, H2, os, bare, un, ok2, r2, q⟩ := h
        obtain rfl : v = .bl true := q
        obtain rfl : u = Value.bool true := r2
        refine ⟨rfl, OldK.of_keep fun b o e => ?_, os, bare⟩
        cases q : H b with
        | none => exact un.keep b o e q nofun nofun
        | some v =>
          rcases only b with z | ⟨o2, xs, z⟩
          · rw [q] at z
            cases z
          · obtain ⟨e1, _⟩ := ok b _ z
            obtain ⟨e2, _⟩ := ok2 b _ (un.frzs b o2 _ z)
            rw [e] at e1
            cases e1
            exact e2
      | _ => exact False.elim h
  cases hk : K.lookup a with
  | some o =>
    have e := kin a o hk
    rw [ob] at e
    cases e
    exact run (fun _ => none) (fun _ => .inl rfl) (.inr (.inr ⟨_, us.toArray, _, hk, rfl, rfl, rfl, by rw [List.size_toArray, len]; exact sl, by simpa using rv⟩)) (fun b u z => by cases z) (fun b z => absurd rfl z) fun z => absurd rfl z
  | none =>
    let o1 : Obj := { cls := .type "list", data := .seq us.toArray }
    let H1 : Hp := fun b => if b = a then some (.frz o1 (.lst (ns.map V.int))) else none
    have at1 : H1 a = some (.frz o1 (.lst (ns.map V.int))) := if_pos rfl
    refine run H1 (fun b => ?_) (.inl ⟨⟨nofun, nofun⟩, .inr ⟨o1, at1⟩⟩) (fun b u z => ?_) (fun b z => ?_) fun _ => hk
    · by_cases hb : b = a
      · exact .inr ⟨o1, _, if_pos hb⟩
      · exact .inl (if_neg hb)
    · by_cases hb : b = a
      · subst hb
        have z2 := at1.symm.trans z
        cases z2
        exact ⟨ob, by rw [List.length_map]; exact sl, us, _, rv, ob⟩
      · have z2 := (if_neg hb).symm.trans z
        cases z2
    · by_cases hb : b = a
      · exact hb
      · exact absurd (if_neg hb) z
theorem walkG {l : PySem.W.OpenLaw} {n k : Nat} {q : Program} {loose : List Str} {XP : (Str → Option Value) → Heap → Prop} {YP : World → Heap → Prop} {d : DefRec} {K : Params → PySem.W.Frag} {FL : FC}
    (hn : l.most = some n) (hn2 : n ≤ sizeLine) (hdf : d.params.defaults = []) (rm : Room k callerA) (hY : ∀ (w : World) (h : Heap), YP w h → (K w.params).In h)
    (G : ∀ (w : World) (mg : Str → Option Value) (fa : Addr) (h : Heap), (K w.params).In h → h.Ns mainGlobals mg → mg d.name = some (.ref fa) → ∀ B : Heap, (K w.params).In B → B.Ns mainGlobals mg → FnG l.prog w (K w.params) mg B (L2.CX l.prog w) k fa (spD (K w.params) FL))
    (eq : ∀ ns : List Int, ns.length ≤ n → (∀ z ∈ ns, Builtin.Int.intBits z ≤ 1048576) → ∃ S', FL [.frz (ns.map D.int)] [] = .ok (.bl true) S') :
    PySem.W.WalkO q loose XP YP l.row.toRowW d [] (fun f vs => PySem.call f vs) := by
  refine Att.attach_callB hn hdf fun w t0 t mg mb fa o pm cd doc a us ns Z Y ho hd hcd hmg hobj hints hlen hbits hg => ?_
  have kin := hY w _ Y
  exact lawG kin Z.T.g Z.T.b Z.T.builtins Z.T.nolimit hg hobj hints (Nat.le_trans hlen hn2) rm (G w mg fa _ kin Z.T.g hmg) (eq ns hlen hbits)
end EV
namespace EV
open PySem L2 PySem.Spec PyProof.Rows
/-! ### a module's defs -/
theorem some_of {α : Type} {o : Option α} {d : α} (h : o.isSome = true) : o = some (o.getD d) := by
  cases o with
  | none => cases h
  | some a => rfl
theorem all_nil {α : Type} {P : α → Prop} : ∀ p ∈ ([] : List α), P p := fun p h => (by cases h)
theorem all_cons {α : Type} {P : α → Prop} {a : α} {l : List α} (h : P a) (t : ∀ p ∈ l, P p) : ∀ p ∈ a :: l, P p := fun p hp => by
  rcases List.mem_cons.mp hp with rfl | hp
  · exact h
  · exact t p hp
/-- a def of the module as the top has left it -/
structure DefAt (K : PySem.W.Frag) (mg : Str → Option Value) (x : Str) (st : Stmt) (f : Addr) : Prop where
  ex : ∃ (oc : Value) (od : Option Addr) (kV doc pm : Value) (an : Option Addr) (cdv ct : Value) (osl : Array (Option Value)), K.lookup f = some ⟨oc, od, .func (PySem.W.fnOf x x (defArgs st) (defBody st) (defScope st) .none kV doc pm an cdv ct), osl⟩ ∧ PySem.W.codeIn K cdv x = true
  kp : PySem.W.keepIn K (.ref f) = true
  mg : mg x = some (.ref f)
theorem defAt_mk {K : PySem.W.Frag} {mg : Str → Option Value} {h : Heap} {x : Str} {st : Stmt} {f : Addr} {oc : Value} {od : Option Addr} {kV doc pm : Value} {an : Option Addr} {cdv ct : Value} {osl : Array (Option Value)} (X : K.In h) (G : h.Ns mainGlobals mg)
    (a : PySem.W.nsIn K mainGlobals x = some (some (.ref f))) (l : K.lookup f = some ⟨oc, od, .func (PySem.W.fnOf x x (defArgs st) (defBody st) (defScope st) .none kV doc pm an cdv ct), osl⟩) (c : PySem.W.codeIn K cdv x = true) (k : PySem.W.keepIn K (.ref f) = true) : DefAt K mg x st f :=
  ⟨⟨oc, od, kV, doc, pm, an, cdv, ct, osl, l, c⟩, k, PySem.W.mg_of X G a⟩
section
variable {P : Program} {w : World} {K : PySem.W.Frag} {mg : Str → Option Value} {base : Heap} {k : Nat} {c : Cc} {x : Str} {st : Stmt} {f : Addr} {ps : List Str} {pv : Str} {fs : FS} {n m : Nat}
theorem fnF (F : DefAt K mg x st f) (hs : c.sc = defScope st) (S : FnScope c.N ps c.sc) (ho : c.own = c.sc)
    (hb : ∀ (kV doc pm : Value) (an : Option Addr) (cdv ct : Value) (us : List Value), us.length = ps.length → bindArgs (PySem.W.fnOf x x (defArgs st) (defBody st) (defScope st) .none kV doc pm an cdv ct) ⟨us, []⟩ = pure (ps.zip us)) (M : MdOk P w K mg base k c)
    (hc : (compS (comp n) m).L c (defBody st) = some fs) : FnG P w K mg base (L2.CX P w) (k + 1) f (spD K (fcOf c.N ps.length fs)) := by
  obtain ⟨oc, od, kV, doc, pm, an, cdv, ct, osl, l, cd⟩ := F.ex
  rw [← hs] at l
  exact fnD l cd S ho (fun us hl => by rw [hs]; exact hb kV doc pm an cdv ct us hl) M hc
theorem fnFs (F : DefAt K mg x st f) (hs : c.sc = defScope st) (S : FnScope c.N (ps ++ [pv]) c.sc) (ho : c.own = c.sc)
    (hb : ∀ (kV doc pm : Value) (an : Option Addr) (cdv ct : Value) (us rest : List Value), us.length = ps.length → bindArgs (PySem.W.fnOf x x (defArgs st) (defBody st) (defScope st) .none kV doc pm an cdv ct) ⟨us ++ rest, []⟩ = (newTuple rest >>= fun t => pure (ps.zip us ++ [(pv, t)])))
    (M : MdOk P w K mg base k c) (hc : (compS (comp n) m).L c (defBody st) = some fs) : FnG P w K mg base (L2.CX P w) (k + 1) f (spD K (fcStar c.N ps.length fs)) := by
  obtain ⟨oc, od, kV, doc, pm, an, cdv, ct, osl, l, cd⟩ := F.ex
  rw [← hs] at l
  exact fnDs l cd S ho (fun us rest hl => by rw [hs]; exact hb kV doc pm an cdv ct us rest hl) M hc
theorem defs_at {p : Str × FC} {j : Nat} {x : Str} {st : Stmt} {f : Addr} (F : DefAt K mg x st f) (e : p.1 = x) (G : FnG P w K mg base (L2.CX P w) j f (spD K p.2)) (h : j ≤ k) : ∃ f, mg p.1 = some (.ref f) ∧ PySem.W.keepIn K (.ref f) = true ∧ FnG P w K mg base (L2.CX P w) k f (spD K p.2) :=
  ⟨f, by rw [e]; exact F.mg, F.kp, G.mono h⟩
end
end EV

namespace EV
/-! short names of the operators -/
def gAdd : G2 := gOr gAddI (gOr gAddS (gOr gAddT gAddL))
def gMul : G2 := gOr gMulI (gOr gRepL gRepA)
def gEQ : G2 := gOr (gEqS id) (gEq id)
def gNE : G2 := gOr (gEqS not) (gEq not)
def gLt : G2 := gCmpI fun i j => decide (i < j)
def gLe : G2 := gCmpI fun i j => decide (i ≤ j)
def gGt : G2 := gCmpI fun i j => decide (j < i)
def gGe : G2 := gCmpI fun i j => decide (j ≤ i)
def gIs : G2 := gOr (gIsN id) (gIsB id)
def gIsNot : G2 := gOr (gIsN not) (gIsB not)
def gIn : G2 := gOr (gInT id) (gInL id)
def gNotIn : G2 := gOr (gInT not) (gInL not)
def gMax : GC := gcOr gMax2 (gExt maxL)
def gMin : GC := gcOr gMin2 (gExt minL)
end EV

namespace EV
open PySem L2
/-! what the pieces of a shallow program do, for simp -/
section
variable {ρ : Env} {S : Sto} {d e : D} {i j : Int} {α : Type}
@[simp] theorem x_c : eC d ρ S = .ok d S := (fun _ => rfl) ()
@[simp] theorem x_bin {g : G2} {a b : FE} : eBin g a b ρ S = (a ρ S).bind fun x S1 => (b ρ S1).bind fun y S2 => ofOpt (g S2 x y) S2 := (fun _ => rfl) ()
@[simp] theorem x_and {a b : FE} : eAndF a b ρ S = (a ρ S).bind fun d S1 => (ofOpt (truD S1 d) S1).bind fun k S2 => if k = true then b ρ S2 else .ok d S2 := (fun _ => rfl) ()
@[simp] theorem x_or {a b : FE} : eOrF a b ρ S = (a ρ S).bind fun d S1 => (ofOpt (truD S1 d) S1).bind fun k S2 => if k = true then .ok d S2 else b ρ S2 := (fun _ => rfl) ()
@[simp] theorem x_not {a : FE} : eNotF a ρ S = (a ρ S).bind fun d S1 => (ofOpt (truD S1 d) S1).bind fun k S2 => .ok (.bl (!k)) S2 := (fun _ => rfl) ()
@[simp] theorem x_if {t : FT} {a b : FE} : eIfF t a b ρ S = (t ρ S).bind fun k S1 => if k = true then a ρ S1 else b ρ S1 := (fun _ => rfl) ()
@[simp] theorem x_an : aNil ρ S = .ok [] S := (fun _ => rfl) ()
@[simp] theorem x_ac {a : FE} {r : FA} : aCons a r ρ S = (a ρ S).bind fun d S1 => (r ρ S1).bind fun ds S2 => .ok (d :: ds) S2 := (fun _ => rfl) ()
@[simp] theorem x_as {a : FE} {r : FA} : aStar a r ρ S = (a ρ S).bind fun d S1 => (ofOpt (itemsS S1 d) S1).bind fun es S2 => (r ρ S2).bind fun ds S3 => .ok (es ++ ds) S3 := (fun _ => rfl) ()
@[simp] theorem x_tup {a : FA} : eTup a ρ S = (a ρ S).bind fun ds S1 => if sz ds.length = true then .ok (.tup ds) S1 else .stuck := (fun _ => rfl) ()
@[simp] theorem x_lst {a : FA} : eLst a ρ S = (a ρ S).bind fun ds S1 => if sz ds.length = true then .ok (.lst ds) S1 else .stuck := (fun _ => rfl) ()
@[simp] theorem x_loc {a : FA} : eLoc a ρ S = (a ρ S).bind fun ds S1 => if sz ds.length = true then .ok (.loc S1.length) (S1 ++ [.lst ds]) else .stuck := (fun _ => rfl) ()
@[simp] theorem x_call {F : FC} {a : FA} : eCall F a ρ S = (a ρ S).bind fun ds S1 => F ds S1 := (fun _ => rfl) ()
@[simp] theorem x_callG {g : GC} {a : FA} : eCallG g a ρ S = (a ρ S).bind fun ds S1 => ofOpt (g S1 ds) S1 := (fun _ => rfl) ()
@[simp] theorem x_tVal {a : FE} : tVal a ρ S = (a ρ S).bind fun d S1 => ofOpt (truD S1 d) S1 := (fun _ => rfl) ()
@[simp] theorem x_tNot {a : FT} : tNotF a ρ S = (a ρ S).bind fun b S1 => .ok (!b) S1 := (fun _ => rfl) ()
@[simp] theorem x_tAnd {a b : FT} : tAndF a b ρ S = (a ρ S).bind fun x S1 => if x = true then b ρ S1 else .ok false S1 := (fun _ => rfl) ()
@[simp] theorem x_tOr {a b : FT} : tOrF a b ρ S = (a ρ S).bind fun x S1 => if x = true then .ok true S1 else b ρ S1 := (fun _ => rfl) ()
theorem x_tBl {a : FE} : tBl a ρ S = (a ρ S).bind fun d S1 => match d with | .bl b => .ok b S1 | _ => .stuck := rfl
@[simp] theorem x_yes : tYesF ρ S = .ok true S := (fun _ => rfl) ()
@[simp] theorem x_lc {fi : FI} {tg : Tgt} {t : FT} {a : FE} {vs : List Nat} : eLc fi tg t a vs ρ S = (fi ρ S).bind fun ds S1 => if sz ds.length = true then (lcLoop tg t a (wipeD ρ vs) ds S1).bind fun out S2 => .ok (.lst out) S2 else .stuck := (fun _ => rfl) ()
@[simp] theorem x_iSeq {a : FE} : iSeq a ρ S = (a ρ S).bind fun d S1 => ofOpt (itemsI d) S1 := (fun _ => rfl) ()
@[simp] theorem x_next : sNext ρ S = .nx ρ S := (fun _ => rfl) ()
@[simp] theorem x_seq {f g : FS} : sSeq f g ρ S = (f ρ S).seq g := (fun _ => rfl) ()
@[simp] theorem x_ret {a : FE} : sRet a ρ S = (a ρ S).then ρ fun d S1 => .rt d S1 := (fun _ => rfl) ()
@[simp] theorem x_drop {a : FE} : sDrop a ρ S = (a ρ S).then ρ fun _ S1 => .nx ρ S1 := (fun _ => rfl) ()
@[simp] theorem x_set {k : Nat} {a : FE} : sSet k a ρ S = (a ρ S).then ρ fun d S1 => .nx (ρ.set k (some d)) S1 := (fun _ => rfl) ()
@[simp] theorem x_sif {t : FT} {f g : FS} : sIf t f g ρ S = (t ρ S).then ρ fun b S1 => if b = true then f ρ S1 else g ρ S1 := (fun _ => rfl) ()
@[simp] theorem x_for {fi : FI} {t : Tgt} {f : FS} : sFor fi t f ρ S = (fi ρ S).then ρ fun ds S1 => forLoop t f ds ρ S1 := (fun _ => rfl) ()
@[simp] theorem x_end1 : endD (.nx ρ S) = .ok .non S := (fun _ => rfl) ()
@[simp] theorem x_end2 : endD (.rt d S) = .ok d S := (fun _ => rfl) ()
@[simp] theorem x_addI : gAdd S (.int i) (.int j) = some (.int (i + j)) := (fun _ => rfl) ()
@[simp] theorem x_subI : gSubI S (.int i) (.int j) = some (.int (i - j)) := (fun _ => rfl) ()
theorem x_mulI (h : mulOk i j = true) : gMul S (.int i) (.int j) = some (.int (i * j)) := by simp [gMul, gOr, gMulI, gI, h]
theorem x_modI (h : 0 < j) : gModI S (.int i) (.int j) = some (.int (i % j)) := by simp [gModI, gI, h]
@[simp] theorem x_lt : gLt S (.int i) (.int j) = some (.bl (decide (i < j))) := (fun _ => rfl) ()
@[simp] theorem x_le : gLe S (.int i) (.int j) = some (.bl (decide (i ≤ j))) := (fun _ => rfl) ()
@[simp] theorem x_gt : gGt S (.int i) (.int j) = some (.bl (decide (j < i))) := (fun _ => rfl) ()
@[simp] theorem x_ge : gGe S (.int i) (.int j) = some (.bl (decide (j ≤ i))) := (fun _ => rfl) ()
@[simp] theorem t_bl {b : Bool} : truD S (.bl b) = some b := (fun _ => rfl) ()
@[simp] theorem t_int : truD S (.int i) = some (i != 0) := (fun _ => rfl) ()
theorem eqG (f : Bool → Bool) : gEq f S (.int i) (.int j) = some (.bl (f (decide (i = j)))) := by
  have h : SeqAt.shaped (PyData.int i) = true := rfl
  have h2 : SeqAt.shaped (PyData.int j) = true := rfl
  simp only [gEq, toPL, toP, h, h2, PyData.eqv, Bool.and_self, if_true]
  rfl
theorem eqI : gEQ S (.int i) (.int j) = some (.bl (decide (i = j))) ∧ gNE S (.int i) (.int j) = some (.bl (!decide (i = j))) := ⟨eqG (S := S) id, eqG (S := S) not⟩
theorem eqS {x y : Str} : gEQ S (.str x) (.str y) = some (.bl (decide (x = y))) ∧ gNE S (.str x) (.str y) = some (.bl (!decide (x = y))) := ⟨rfl, rfl⟩
theorem lt_sz {n : Nat} (h : n ≤ 16777216) : sz n = true := by simp [sz, h]
@[simp] theorem k_ii : kitB "int" "int" = some true := by decide +kernel
@[simp] theorem k_ib : kitB "int" "bool" = some false := by decide +kernel
@[simp] theorem k_bi : kitB "bool" "int" = some true := by decide +kernel
@[simp] theorem k_bb : kitB "bool" "bool" = some true := by decide +kernel
@[simp] theorem k_tt : kitB "tuple" "tuple" = some true := by decide +kernel
@[simp] theorem x_isi {t u : String} (h : tyD S d = some u) : gIsi S [d, .ty t] = (kitB u t).map .bl := by simp [gIsi, h]
@[simp] theorem y_int : tyD S (.int i) = some "int" := (fun _ => rfl) ()
@[simp] theorem y_tup {ds : List D} : tyD S (.tup ds) = some "tuple" := (fun _ => rfl) ()
@[simp] theorem l_tup {ds : List D} : gLen S [.tup ds] = some (.int ds.length) := (fun _ => rfl) ()
@[simp] theorem tp_lst {ds : List D} : gTuple S [.lst ds] = some (.tup ds) := (fun _ => rfl) ()
@[simp] theorem al_lst {ds : List D} : gAll S [.lst ds] = (truDs ds).map fun bs => .bl (bs.all id) := (fun _ => rfl) ()
@[simp] theorem su_lst {ds : List D} : gSum S [.lst ds] = (intsD ds).map fun ns => .int ns.sum := (fun _ => rfl) ()
@[simp] theorem su_tup {ds : List D} : gSum S [.tup ds] = (intsD ds).map fun ns => .int ns.sum := (fun _ => rfl) ()
@[simp] theorem it_tup {ds : List D} : itemsI (.tup ds) = some ds := (fun _ => rfl) ()
@[simp] theorem it_lst {ds : List D} : itemsI (.lst ds) = some ds := (fun _ => rfl) ()
end
/-- typed data -/
def dV (v : List Int) : D := .tup (v.map .int)
def dM (m : List (List Int)) : D := .tup (m.map dV)
theorem mul_small {i j : Int} (h1 : -(2 ^ 64) < i) (h2 : i < 2 ^ 64) : mulOk i j = true := by
  unfold mulOk big64
  rw [decide_eq_true h1, decide_eq_true h2]
  rfl
/-- a comprehension whose parts change nothing -/
theorem lc_pure {tg : Tgt} {a : FE} {ρ : Env} {S : Sto} (f : D → D) : ∀ (ds : List D), (∀ d ∈ ds, ∃ ρ2, tg.d d ρ = some ρ2 ∧ a ρ2 S = .ok (f d) S) → lcLoop tg tYesF a ρ ds S = .ok (ds.map f) S
  | [], _ => rfl
  | d :: ds, h => by
    obtain ⟨ρ2, h1, h2⟩ := h d List.mem_cons_self
    simp only [lcLoop, h1, x_yes, noX_ok, bind_ok, if_true, h2, lc_pure f ds fun d hd => h d (List.mem_cons_of_mem _ hd), List.map_cons]
theorem lc_map {β : Type} {tg : Tgt} {a : FE} {ρ : Env} {S : Sto} (emb f : β → D) : ∀ (l : List β), (∀ b ∈ l, ∃ ρ2, tg.d (emb b) ρ = some ρ2 ∧ a ρ2 S = .ok (f b) S) → lcLoop tg tYesF a ρ (l.map emb) S = .ok (l.map f) S
  | [], _ => rfl
  | d :: ds, h => by
    obtain ⟨ρ2, h1, h2⟩ := h d List.mem_cons_self
    simp only [List.map_cons, lcLoop, h1, x_yes, noX_ok, bind_ok, if_true, h2, lc_map emb f ds fun d hd => h d (List.mem_cons_of_mem _ hd)]
theorem b62_n {w : Nat} (h : w ≤ 16777216) : b62 (w : Int) = true := by
  simp only [b62, Bool.and_eq_true, decide_eq_true_eq]
  omega
theorem x_range {a : FE} {ρ : Env} {S S1 : Sto} {w : Nat} (h : a ρ S = .ok (.int (w : Int)) S1) (hb : b62 (w : Int) = true) : iRange1 a ρ S = .ok ((List.range w).map fun j : Nat => D.int (j : Int)) S1 := by
  unfold iRange1
  rw [h]
  rw [bind_ok]
  show (if b62 (w : Int) = true then Res.ok (rngD 0 (w : Int).toNat) S1 else .stuck) = _
  rw [if_pos hb]
  unfold rngD
  rw [Int.toNat_natCast]
  have e : (List.range w).map (fun j : Nat => D.int ((0 : Int) + (j : Int))) = (List.range w).map fun j : Nat => D.int (j : Int) := List.map_congr_left fun j _ => congrArg D.int (Int.zero_add _)
  exact congrArg (fun l => Res.ok l S1) e
@[simp] theorem intsD_map {β : Type} (f : β → Int) : ∀ v : List β, intsD (v.map fun i => .int (f i)) = some (v.map f)
  | [] => rfl
  | x :: v => by simp only [List.map_cons, intsD, intsD_map f v]; rfl
@[simp] theorem truDs_map {β : Type} (f : β → Bool) : ∀ v : List β, truDs (v.map fun i => .bl (f i)) = some (v.map f)
  | [] => rfl
  | x :: v => by simp only [List.map_cons, truDs, flatD, truF, truDs_map f v]
@[simp] theorem intsD_id (v : List Int) : intsD (v.map .int) = some v := by
  have := intsD_map id v
  simpa using this
end EV

namespace EV
open PySem L2
def top (i : Nat) : Stmt := PySem.Challenge.pw_driveends_k03_vector_arithmetic.main.body.getD i (.Pass ⟨0, 0, 0, 0⟩)
def BIS : List Str := ["len", "abs", "int", "max", "min", "tuple", "isinstance", "all", "sum", "range", "zip", "bool", "repr"]
def KON : List (Str × V) := [("MAX_MODULUS", .int 97), ("MAX_WIDTH", .int 100), ("MAX_VECTORS", .int 100)]
abbrev b_multiple : Stmt := top 7
def c_multiple : Cc := { N := ["modulus", "number", "vector", "entry"], sc := defScope b_multiple, own := defScope b_multiple, bis := BIS, kon := KON, defs := [], mu := [] }
def s_multiple : FS := ((compS (comp 30) 60).L c_multiple (defBody b_multiple)).getD sStuck
def F_multiple : FC := fcOf c_multiple.N 3 s_multiple
theorem w_multiple : ((compS (comp 30) 60).L c_multiple (defBody b_multiple)).isSome = true := by decide +kernel
abbrev b_dot_product : Stmt := top 8
def c_dot_product : Cc := { N := ["modulus", "one", "other", "first", "second"], sc := defScope b_dot_product, own := defScope b_dot_product, bis := BIS, kon := KON, defs := [], mu := [] }
def s_dot_product : FS := ((compS (comp 30) 60).L c_dot_product (defBody b_dot_product)).getD sStuck
def F_dot_product : FC := fcOf c_dot_product.N 3 s_dot_product
theorem w_dot_product : ((compS (comp 30) 60).L c_dot_product (defBody b_dot_product)).isSome = true := by decide +kernel
abbrev b_columns_of : Stmt := top 9
def c_columns_of : Cc := { N := ["width", "matrix", "at", "vector"], sc := defScope b_columns_of, own := defScope b_columns_of, bis := BIS, kon := KON, defs := [], mu := [] }
def s_columns_of : FS := ((compS (comp 30) 60).L c_columns_of (defBody b_columns_of)).getD sStuck
def F_columns_of : FC := fcOf c_columns_of.N 2 s_columns_of
theorem w_columns_of : ((compS (comp 30) 60).L c_columns_of (defBody b_columns_of)).isSome = true := by decide +kernel
abbrev b_combined : Stmt := top 10
def c_combined : Cc := { N := ["modulus", "width", "vectors", "factors", "column"], sc := defScope b_combined, own := defScope b_combined, bis := BIS, kon := KON, defs := [("dot_product", F_dot_product), ("columns_of", F_columns_of)], mu := [] }
def s_combined : FS := ((compS (comp 30) 60).L c_combined (defBody b_combined)).getD sStuck
def F_combined : FC := fcOf c_combined.N 4 s_combined
theorem w_combined : ((compS (comp 30) 60).L c_combined (defBody b_combined)).isSome = true := by decide +kernel
abbrev b_is_int : Stmt := top 15
def c_is_int : Cc := { N := ["value"], sc := defScope b_is_int, own := defScope b_is_int, bis := BIS, kon := KON, defs := [], mu := [] }
def s_is_int : FS := ((compS (comp 30) 60).L c_is_int (defBody b_is_int)).getD sStuck
def F_is_int : FC := fcOf c_is_int.N 1 s_is_int
theorem w_is_int : ((compS (comp 30) 60).L c_is_int (defBody b_is_int)).isSome = true := by decide +kernel
abbrev b_is_modulus : Stmt := top 16
def c_is_modulus : Cc := { N := ["value", "divisor"], sc := defScope b_is_modulus, own := defScope b_is_modulus, bis := BIS, kon := KON, defs := [("is_int", F_is_int)], mu := [] }
def s_is_modulus : FS := ((compS (comp 30) 60).L c_is_modulus (defBody b_is_modulus)).getD sStuck
def F_is_modulus : FC := fcOf c_is_modulus.N 1 s_is_modulus
theorem w_is_modulus : ((compS (comp 30) 60).L c_is_modulus (defBody b_is_modulus)).isSome = true := by decide +kernel
abbrev b_is_number : Stmt := top 17
def c_is_number : Cc := { N := ["modulus", "value"], sc := defScope b_is_number, own := defScope b_is_number, bis := BIS, kon := KON, defs := [("is_int", F_is_int)], mu := [] }
def s_is_number : FS := ((compS (comp 30) 60).L c_is_number (defBody b_is_number)).getD sStuck
def F_is_number : FC := fcOf c_is_number.N 2 s_is_number
theorem w_is_number : ((compS (comp 30) 60).L c_is_number (defBody b_is_number)).isSome = true := by decide +kernel
abbrev b_are_numbers : Stmt := top 18
def c_are_numbers : Cc := { N := ["modulus", "value", "entry"], sc := defScope b_are_numbers, own := defScope b_are_numbers, bis := BIS, kon := KON, defs := [("is_number", F_is_number)], mu := [] }
def s_are_numbers : FS := ((compS (comp 30) 60).L c_are_numbers (defBody b_are_numbers)).getD sStuck
def F_are_numbers : FC := fcOf c_are_numbers.N 2 s_are_numbers
theorem w_are_numbers : ((compS (comp 30) 60).L c_are_numbers (defBody b_are_numbers)).isSome = true := by decide +kernel
abbrev b_are_vectors : Stmt := top 19
def c_are_vectors : Cc := { N := ["modulus", "width", "value", "vector"], sc := defScope b_are_vectors, own := defScope b_are_vectors, bis := BIS, kon := KON, defs := [("are_numbers", F_are_numbers)], mu := [] }
def s_are_vectors : FS := ((compS (comp 30) 60).L c_are_vectors (defBody b_are_vectors)).getD sStuck
def F_are_vectors : FC := fcOf c_are_vectors.N 3 s_are_vectors
theorem w_are_vectors : ((compS (comp 30) 60).L c_are_vectors (defBody b_are_vectors)).isSome = true := by decide +kernel
abbrev b_check_modulus : Stmt := top 20
def c_check_modulus : Cc := { N := ["modulus"], sc := defScope b_check_modulus, own := defScope b_check_modulus, bis := BIS, kon := KON, defs := [("is_modulus", F_is_modulus)], mu := [] }
def s_check_modulus : FS := ((compS (comp 30) 60).L c_check_modulus (defBody b_check_modulus)).getD sStuck
def F_check_modulus : FC := fcOf c_check_modulus.N 1 s_check_modulus
theorem w_check_modulus : ((compS (comp 30) 60).L c_check_modulus (defBody b_check_modulus)).isSome = true := by decide +kernel
abbrev b_check_number : Stmt := top 21
def c_check_number : Cc := { N := ["modulus", "number"], sc := defScope b_check_number, own := defScope b_check_number, bis := BIS, kon := KON, defs := [("is_number", F_is_number)], mu := [] }
def s_check_number : FS := ((compS (comp 30) 60).L c_check_number (defBody b_check_number)).getD sStuck
def F_check_number : FC := fcOf c_check_number.N 2 s_check_number
theorem w_check_number : ((compS (comp 30) 60).L c_check_number (defBody b_check_number)).isSome = true := by decide +kernel
abbrev b_check_width : Stmt := top 22
def c_check_width : Cc := { N := ["width"], sc := defScope b_check_width, own := defScope b_check_width, bis := BIS, kon := KON, defs := [("is_int", F_is_int)], mu := [] }
def s_check_width : FS := ((compS (comp 30) 60).L c_check_width (defBody b_check_width)).getD sStuck
def F_check_width : FC := fcOf c_check_width.N 1 s_check_width
theorem w_check_width : ((compS (comp 30) 60).L c_check_width (defBody b_check_width)).isSome = true := by decide +kernel
abbrev b_check_vector : Stmt := top 23
def c_check_vector : Cc := { N := ["modulus", "vector"], sc := defScope b_check_vector, own := defScope b_check_vector, bis := BIS, kon := KON, defs := [("are_numbers", F_are_numbers)], mu := [] }
def s_check_vector : FS := ((compS (comp 30) 60).L c_check_vector (defBody b_check_vector)).getD sStuck
def F_check_vector : FC := fcOf c_check_vector.N 2 s_check_vector
theorem w_check_vector : ((compS (comp 30) 60).L c_check_vector (defBody b_check_vector)).isSome = true := by decide +kernel
abbrev b_check_vector_of : Stmt := top 24
def c_check_vector_of : Cc := { N := ["modulus", "length", "vector"], sc := defScope b_check_vector_of, own := defScope b_check_vector_of, bis := BIS, kon := KON, defs := [("check_vector", F_check_vector)], mu := [] }
def s_check_vector_of : FS := ((compS (comp 30) 60).L c_check_vector_of (defBody b_check_vector_of)).getD sStuck
def F_check_vector_of : FC := fcOf c_check_vector_of.N 3 s_check_vector_of
theorem w_check_vector_of : ((compS (comp 30) 60).L c_check_vector_of (defBody b_check_vector_of)).isSome = true := by decide +kernel
abbrev b_check_matrix : Stmt := top 25
def c_check_matrix : Cc := { N := ["modulus", "width", "matrix"], sc := defScope b_check_matrix, own := defScope b_check_matrix, bis := BIS, kon := KON, defs := [("are_vectors", F_are_vectors)], mu := [] }
def s_check_matrix : FS := ((compS (comp 30) 60).L c_check_matrix (defBody b_check_matrix)).getD sStuck
def F_check_matrix : FC := fcOf c_check_matrix.N 3 s_check_matrix
theorem w_check_matrix : ((compS (comp 30) 60).L c_check_matrix (defBody b_check_matrix)).isSome = true := by decide +kernel
abbrev b_added : Stmt := top 26
def c_added : Cc := { N := ["modulus", "vector", "others", "other", "columns", "column"], sc := defScope b_added, own := defScope b_added, bis := BIS, kon := KON, defs := [("check_modulus", F_check_modulus), ("check_vector", F_check_vector), ("columns_of", F_columns_of), ("check_vector_of", F_check_vector_of)], mu := [] }
def s_added : FS := ((compS (comp 30) 60).L c_added (defBody b_added)).getD sStuck
def F_added : FC := fcStar c_added.N 2 s_added
theorem w_added : ((compS (comp 30) 60).L c_added (defBody b_added)).isSome = true := by decide +kernel
abbrev b_scaled : Stmt := top 27
def c_scaled : Cc := { N := ["modulus", "number", "vector"], sc := defScope b_scaled, own := defScope b_scaled, bis := BIS, kon := KON, defs := [("check_modulus", F_check_modulus), ("check_number", F_check_number), ("check_vector", F_check_vector), ("multiple", F_multiple)], mu := [] }
def s_scaled : FS := ((compS (comp 30) 60).L c_scaled (defBody b_scaled)).getD sStuck
def F_scaled : FC := fcOf c_scaled.N 3 s_scaled
theorem w_scaled : ((compS (comp 30) 60).L c_scaled (defBody b_scaled)).isSome = true := by decide +kernel
abbrev b_dot : Stmt := top 28
def c_dot : Cc := { N := ["modulus", "one", "other"], sc := defScope b_dot, own := defScope b_dot, bis := BIS, kon := KON, defs := [("check_modulus", F_check_modulus), ("check_vector", F_check_vector), ("check_vector_of", F_check_vector_of), ("dot_product", F_dot_product)], mu := [] }
def s_dot : FS := ((compS (comp 30) 60).L c_dot (defBody b_dot)).getD sStuck
def F_dot : FC := fcOf c_dot.N 3 s_dot
theorem w_dot : ((compS (comp 30) 60).L c_dot (defBody b_dot)).isSome = true := by decide +kernel
abbrev b_combination : Stmt := top 29
def c_combination : Cc := { N := ["modulus", "width", "vectors", "factors"], sc := defScope b_combination, own := defScope b_combination, bis := BIS, kon := KON, defs := [("check_modulus", F_check_modulus), ("check_width", F_check_width), ("check_matrix", F_check_matrix), ("check_vector_of", F_check_vector_of), ("combined", F_combined)], mu := [] }
def s_combination : FS := ((compS (comp 30) 60).L c_combination (defBody b_combination)).getD sStuck
def F_combination : FC := fcOf c_combination.N 4 s_combination
theorem w_combination : ((compS (comp 30) 60).L c_combination (defBody b_combination)).isSome = true := by decide +kernel
abbrev b_product : Stmt := top 30
def c_product : Cc := { N := ["modulus", "width", "one", "other", "columns", "row", "column"], sc := defScope b_product, own := defScope b_product, bis := BIS, kon := KON, defs := [("check_modulus", F_check_modulus), ("check_width", F_check_width), ("check_matrix", F_check_matrix), ("columns_of", F_columns_of), ("dot_product", F_dot_product)], mu := [] }
def s_product : FS := ((compS (comp 30) 60).L c_product (defBody b_product)).getD sStuck
def F_product : FC := fcOf c_product.N 4 s_product
theorem w_product : ((compS (comp 30) 60).L c_product (defBody b_product)).isSome = true := by decide +kernel
abbrev b_transposed : Stmt := top 31
def c_transposed : Cc := { N := ["modulus", "width", "matrix"], sc := defScope b_transposed, own := defScope b_transposed, bis := BIS, kon := KON, defs := [("check_modulus", F_check_modulus), ("check_width", F_check_width), ("check_matrix", F_check_matrix), ("columns_of", F_columns_of)], mu := [] }
def s_transposed : FS := ((compS (comp 30) 60).L c_transposed (defBody b_transposed)).getD sStuck
def F_transposed : FC := fcOf c_transposed.N 3 s_transposed
theorem w_transposed : ((compS (comp 30) 60).L c_transposed (defBody b_transposed)).isSome = true := by decide +kernel
abbrev b_law_pot : Stmt := top 33
def c_law_pot : Cc := { N := ["_law_script", "_law_k", "_law_cell", "_law_mixed"], sc := defScope b_law_pot, own := defScope b_law_pot, bis := BIS, kon := KON, defs := [], mu := [⟨101, 11, 101, 78⟩] }
def s_law_pot : FS := ((compS (comp 30) 60).L c_law_pot (defBody b_law_pot)).getD sStuck
def F_law_pot : FC := fcOf c_law_pot.N 2 s_law_pot
theorem w_law_pot : ((compS (comp 30) 60).L c_law_pot (defBody b_law_pot)).isSome = true := by decide +kernel
abbrev b_law_take : Stmt := top 34
def c_law_take : Cc := { N := ["_law_pot_here", "_law_number", "_law_found", "_law_one", "_law_other"], sc := defScope b_law_take, own := defScope b_law_take, bis := BIS, kon := KON, defs := [], mu := [] }
def s_law_take : FS := ((compS (comp 30) 60).L c_law_take (defBody b_law_take)).getD sStuck
def F_law_take : FC := fcOf c_law_take.N 2 s_law_take
theorem w_law_take : ((compS (comp 30) 60).L c_law_take (defBody b_law_take)).isSome = true := by decide +kernel
abbrev b_law_modulus : Stmt := top 35
def c_law_modulus : Cc := { N := ["_law_pot_here"], sc := defScope b_law_modulus, own := defScope b_law_modulus, bis := BIS, kon := KON, defs := [("_law_take", F_law_take)], mu := [] }
def s_law_modulus : FS := ((compS (comp 30) 60).L c_law_modulus (defBody b_law_modulus)).getD sStuck
def F_law_modulus : FC := fcOf c_law_modulus.N 1 s_law_modulus
theorem w_law_modulus : ((compS (comp 30) 60).L c_law_modulus (defBody b_law_modulus)).isSome = true := by decide +kernel
abbrev b_law_vector : Stmt := top 36
def c_law_vector : Cc := { N := ["_law_pot_here", "_law_modulus_here", "_law_size", "_law_often", "_law_at"], sc := defScope b_law_vector, own := defScope b_law_vector, bis := BIS, kon := KON, defs := [("_law_take", F_law_take)], mu := [] }
def s_law_vector : FS := ((compS (comp 30) 60).L c_law_vector (defBody b_law_vector)).getD sStuck
def F_law_vector : FC := fcOf c_law_vector.N 3 s_law_vector
theorem w_law_vector : ((compS (comp 30) 60).L c_law_vector (defBody b_law_vector)).isSome = true := by decide +kernel
abbrev b_law_matrix : Stmt := top 37
def c_law_matrix : Cc := { N := ["_law_pot_here", "_law_modulus_here", "_law_width", "_law_many", "_law_turn"], sc := defScope b_law_matrix, own := defScope b_law_matrix, bis := BIS, kon := KON, defs := [("_law_vector", F_law_vector)], mu := [] }
def s_law_matrix : FS := ((compS (comp 30) 60).L c_law_matrix (defBody b_law_matrix)).getD sStuck
def F_law_matrix : FC := fcOf c_law_matrix.N 4 s_law_matrix
theorem w_law_matrix : ((compS (comp 30) 60).L c_law_matrix (defBody b_law_matrix)).isSome = true := by decide +kernel
abbrev b_law_combined : Stmt := top 38
def c_law_combined : Cc := { N := ["_law_modulus_here", "_law_width", "_law_vectors", "_law_shares", "_law_found", "_law_factor", "_law_vector_here", "_law_total", "_law_entry"], sc := defScope b_law_combined, own := defScope b_law_combined, bis := BIS, kon := KON, defs := [], mu := [] }
def s_law_combined : FS := ((compS (comp 30) 60).L c_law_combined (defBody b_law_combined)).getD sStuck
def F_law_combined : FC := fcOf c_law_combined.N 4 s_law_combined
theorem w_law_combined : ((compS (comp 30) 60).L c_law_combined (defBody b_law_combined)).isSome = true := by decide +kernel
abbrev b_law_columns : Stmt := top 39
def c_law_columns : Cc := { N := ["_law_width", "_law_rows", "_law_at", "_law_row"], sc := defScope b_law_columns, own := defScope b_law_columns, bis := BIS, kon := KON, defs := [], mu := [] }
def s_law_columns : FS := ((compS (comp 30) 60).L c_law_columns (defBody b_law_columns)).getD sStuck
def F_law_columns : FC := fcOf c_law_columns.N 2 s_law_columns
theorem w_law_columns : ((compS (comp 30) 60).L c_law_columns (defBody b_law_columns)).isSome = true := by decide +kernel
abbrev b_law_sums_right : Stmt := top 40
def c_law_sums_right : Cc := { N := ["_law_pot_here", "_law_modulus_here", "_law_width", "_law_rows", "_law_one", "_law_two", "_law_three", "_law_four", "_law_found", "_law_due", "_law_number", "_law_first", "_law_second", "_law_many", "_law_here", "_law_there"], sc := defScope b_law_sums_right, own := defScope b_law_sums_right, bis := BIS, kon := KON, defs := [("_law_matrix", F_law_matrix), ("_law_take", F_law_take), ("added", F_added), ("_law_combined", F_law_combined), ("scaled", F_scaled), ("dot", F_dot)], mu := [⟨128, 17, 128, 157⟩, ⟨130, 15, 130, 131⟩] }
def s_law_sums_right : FS := ((compS (comp 30) 60).L c_law_sums_right (defBody b_law_sums_right)).getD sStuck
def F_law_sums_right : FC := fcOf c_law_sums_right.N 3 s_law_sums_right
theorem w_law_sums_right : ((compS (comp 30) 60).L c_law_sums_right (defBody b_law_sums_right)).isSome = true := by decide +kernel
abbrev b_law_products_right : Stmt := top 41
def c_law_products_right : Cc := { N := ["_law_pot_here", "_law_modulus_here", "_law_sizes", "_law_most", "_law_left", "_law_right", "_law_width", "_law_one", "_law_two", "_law_three", "_law_kept", "_law_both", "_law_flipped", "_law_shares", "_law_turn", "_law_row"], sc := defScope b_law_products_right, own := defScope b_law_products_right, bis := BIS, kon := KON, defs := [("_law_matrix", F_law_matrix), ("product", F_product), ("transposed", F_transposed), ("_law_vector", F_law_vector), ("_law_columns", F_law_columns), ("combination", F_combination), ("_law_combined", F_law_combined)], mu := [] }
def s_law_products_right : FS := ((compS (comp 30) 60).L c_law_products_right (defBody b_law_products_right)).getD sStuck
def F_law_products_right : FC := fcOf c_law_products_right.N 3 s_law_products_right
theorem w_law_products_right : ((compS (comp 30) 60).L c_law_products_right (defBody b_law_products_right)).isSome = true := by decide +kernel
abbrev b_law : Stmt := top 42
def c_law : Cc := { N := ["_law_script", "_law_k", "_law_pot_here", "_law_modulus_here", "_law_turn", "_law_sizes", "_law_found", "_law_rows", "_law_flat", "_law_at"], sc := defScope b_law, own := defScope b_law, bis := BIS, kon := KON, defs := [("transposed", F_transposed), ("_law_pot", F_law_pot), ("_law_modulus", F_law_modulus), ("added", F_added), ("scaled", F_scaled), ("dot", F_dot), ("combination", F_combination), ("product", F_product), ("_law_sums_right", F_law_sums_right), ("_law_columns", F_law_columns), ("_law_take", F_law_take), ("_law_products_right", F_law_products_right)], mu := [⟨168, 17, 168, 102⟩] }
def s_law : FS := ((compS (comp 30) 60).L c_law (defBody b_law)).getD sStuck
def F_law : FC := fcOf c_law.N 1 s_law
theorem w_law : ((compS (comp 30) 60).L c_law (defBody b_law)).isSome = true := by decide +kernel

end EV
namespace EV
open PySem L2
theorem n_multiple : c_multiple.N.length = 4 := rfl
theorem e_multiple : s_multiple = (sSeq (sRet (eCallG gTuple (aCons (eLc (iSeq (eVar 2)) (.nm 3) tYesF (eBin gModI (eBin gMul (eVar 1) (eVar 3)) (eVar 0)) [3]) aNil))) sNext) := by rfl
theorem n_dot_product : c_dot_product.N.length = 5 := rfl
theorem e_dot_product : s_dot_product = (sSeq (sRet (eBin gModI (eCallG gSum (aCons (eLc (iZip (eVar 1) (eVar 2)) (.tp [3, 4]) tYesF (eBin gMul (eVar 3) (eVar 4)) [3, 4]) aNil)) (eVar 0))) sNext) := by rfl
theorem n_columns_of : c_columns_of.N.length = 4 := rfl
theorem e_columns_of : s_columns_of = (sSeq (sRet (eCallG gTuple (aCons (eLc (iRange1 (eVar 0)) (.nm 2) tYesF (eCallG gTuple (aCons (eLc (iSeq (eVar 1)) (.nm 3) tYesF (eBin gIx (eVar 3) (eVar 2)) [3]) aNil)) [2]) aNil))) sNext) := by rfl
theorem n_combined : c_combined.N.length = 5 := rfl
theorem e_combined : s_combined = (sSeq (sRet (eCallG gTuple (aCons (eLc (iSeq (eCall F_columns_of (aCons (eVar 1) (aCons (eVar 2) aNil)))) (.nm 4) tYesF (eCall F_dot_product (aCons (eVar 0) (aCons (eVar 3) (aCons (eVar 4) aNil)))) [4]) aNil))) sNext) := by rfl
theorem n_is_int : c_is_int.N.length = 1 := rfl
theorem e_is_int : s_is_int = (sSeq (sRet (eAndF (eCallG gIsi (aCons (eVar 0) (aCons (eC (.ty "int")) aNil))) (eNotF (eCallG gIsi (aCons (eVar 0) (aCons (eC (.ty "bool")) aNil)))))) sNext) := by rfl
theorem n_is_modulus : c_is_modulus.N.length = 2 := rfl
theorem e_is_modulus : s_is_modulus = (sSeq (sIf (tOrF (tNotF (tVal (eCall F_is_int (aCons (eVar 0) aNil)))) (tOrF (tBl (eBin gLt (eVar 0) (eC (.int 2)))) (tBl (eBin gGt (eVar 0) (eC (.int 97)))))) (sSeq (sRet (eC (.bl false))) sNext) sNext) (sSeq (sRet (eCallG gAll (aCons (eLc (iSeq (eTup (aCons (eC (.int 2)) (aCons (eC (.int 3)) (aCons (eC (.int 5)) (aCons (eC (.int 7)) aNil)))))) (.nm 1) tYesF (eOrF (eBin gEQ (eVar 0) (eVar 1)) (eBin gNE (eBin gModI (eVar 0) (eVar 1)) (eC (.int 0)))) [1]) aNil))) sNext)) := by rfl
theorem n_is_number : c_is_number.N.length = 2 := rfl
theorem e_is_number : s_is_number = (sSeq (sRet (eAndF (eCall F_is_int (aCons (eVar 1) aNil)) (eChain gLe gLt (eC (.int 0)) (eVar 1) (eVar 0)))) sNext) := by rfl
theorem n_are_numbers : c_are_numbers.N.length = 3 := rfl
theorem e_are_numbers : s_are_numbers = (sSeq (sRet (eAndF (eCallG gIsi (aCons (eVar 1) (aCons (eC (.ty "tuple")) aNil))) (eCallG gAll (aCons (eLc (iSeq (eVar 1)) (.nm 2) tYesF (eCall F_is_number (aCons (eVar 0) (aCons (eVar 2) aNil))) [2]) aNil)))) sNext) := by rfl
theorem n_are_vectors : c_are_vectors.N.length = 4 := rfl
theorem e_are_vectors : s_are_vectors = (sSeq (sIf (tOrF (tNotF (tVal (eCallG gIsi (aCons (eVar 2) (aCons (eC (.ty "tuple")) aNil))))) (tBl (eBin gGt (eCallG gLen (aCons (eVar 2) aNil)) (eC (.int 100))))) (sSeq (sRet (eC (.bl false))) sNext) sNext) (sSeq (sRet (eCallG gAll (aCons (eLc (iSeq (eVar 2)) (.nm 3) tYesF (eAndF (eCall F_are_numbers (aCons (eVar 0) (aCons (eVar 3) aNil))) (eBin gEQ (eCallG gLen (aCons (eVar 3) aNil)) (eVar 1))) [3]) aNil))) sNext)) := by rfl
theorem n_check_modulus : c_check_modulus.N.length = 1 := rfl
theorem e_check_modulus : s_check_modulus = (sSeq (sIf (tNotF (tVal (eCall F_is_modulus (aCons (eVar 0) aNil)))) (sSeq sStuck sNext) sNext) sNext) := by rfl
theorem n_check_number : c_check_number.N.length = 2 := rfl
theorem e_check_number : s_check_number = (sSeq (sIf (tNotF (tVal (eCall F_is_number (aCons (eVar 0) (aCons (eVar 1) aNil))))) (sSeq sStuck sNext) sNext) sNext) := by rfl
theorem n_check_width : c_check_width.N.length = 1 := rfl
theorem e_check_width : s_check_width = (sSeq (sIf (tOrF (tNotF (tVal (eCall F_is_int (aCons (eVar 0) aNil)))) (tOrF (tBl (eBin gLt (eVar 0) (eC (.int 0)))) (tBl (eBin gGt (eVar 0) (eC (.int 100)))))) (sSeq sStuck sNext) sNext) sNext) := by rfl
theorem n_check_vector : c_check_vector.N.length = 2 := rfl
theorem e_check_vector : s_check_vector = (sSeq (sIf (tNotF (tVal (eCall F_are_numbers (aCons (eVar 0) (aCons (eVar 1) aNil))))) (sSeq sStuck sNext) sNext) sNext) := by rfl
theorem n_check_vector_of : c_check_vector_of.N.length = 3 := rfl
theorem e_check_vector_of : s_check_vector_of = (sSeq (sDrop (eCall F_check_vector (aCons (eVar 0) (aCons (eVar 2) aNil)))) (sSeq (sIf (tBl (eBin gNE (eCallG gLen (aCons (eVar 2) aNil)) (eVar 1))) (sSeq sStuck sNext) sNext) sNext)) := by rfl
theorem n_check_matrix : c_check_matrix.N.length = 3 := rfl
theorem e_check_matrix : s_check_matrix = (sSeq (sIf (tNotF (tVal (eCall F_are_vectors (aCons (eVar 0) (aCons (eVar 1) (aCons (eVar 2) aNil)))))) (sSeq sStuck sNext) sNext) sNext) := by rfl
theorem n_added : c_added.N.length = 6 := rfl
theorem e_added : s_added = (sSeq (sDrop (eCall F_check_modulus (aCons (eVar 0) aNil))) (sSeq (sDrop (eCall F_check_vector (aCons (eVar 0) (aCons (eVar 1) aNil)))) (sSeq (sFor (iSeq (eVar 2)) (.nm 3) (sSeq (sDrop (eCall F_check_vector_of (aCons (eVar 0) (aCons (eCallG gLen (aCons (eVar 1) aNil)) (aCons (eVar 3) aNil))))) sNext)) (sSeq (sSet 4 (eCall F_columns_of (aCons (eCallG gLen (aCons (eVar 1) aNil)) (aCons (eTup (aCons (eVar 1) (aStar (eVar 2) aNil))) aNil)))) (sSeq (sRet (eCallG gTuple (aCons (eLc (iSeq (eVar 4)) (.nm 5) tYesF (eBin gModI (eCallG gSum (aCons (eVar 5) aNil)) (eVar 0)) [5]) aNil))) sNext))))) := by rfl
theorem n_scaled : c_scaled.N.length = 3 := rfl
theorem e_scaled : s_scaled = (sSeq (sDrop (eCall F_check_modulus (aCons (eVar 0) aNil))) (sSeq (sDrop (eCall F_check_number (aCons (eVar 0) (aCons (eVar 1) aNil)))) (sSeq (sDrop (eCall F_check_vector (aCons (eVar 0) (aCons (eVar 2) aNil)))) (sSeq (sRet (eCall F_multiple (aCons (eVar 0) (aCons (eVar 1) (aCons (eVar 2) aNil))))) sNext)))) := by rfl
theorem n_dot : c_dot.N.length = 3 := rfl
theorem e_dot : s_dot = (sSeq (sDrop (eCall F_check_modulus (aCons (eVar 0) aNil))) (sSeq (sDrop (eCall F_check_vector (aCons (eVar 0) (aCons (eVar 1) aNil)))) (sSeq (sDrop (eCall F_check_vector_of (aCons (eVar 0) (aCons (eCallG gLen (aCons (eVar 1) aNil)) (aCons (eVar 2) aNil))))) (sSeq (sRet (eCall F_dot_product (aCons (eVar 0) (aCons (eVar 1) (aCons (eVar 2) aNil))))) sNext)))) := by rfl
theorem n_combination : c_combination.N.length = 4 := rfl
theorem e_combination : s_combination = (sSeq (sDrop (eCall F_check_modulus (aCons (eVar 0) aNil))) (sSeq (sDrop (eCall F_check_width (aCons (eVar 1) aNil))) (sSeq (sDrop (eCall F_check_matrix (aCons (eVar 0) (aCons (eVar 1) (aCons (eVar 2) aNil))))) (sSeq (sDrop (eCall F_check_vector_of (aCons (eVar 0) (aCons (eCallG gLen (aCons (eVar 2) aNil)) (aCons (eVar 3) aNil))))) (sSeq (sRet (eCall F_combined (aCons (eVar 0) (aCons (eVar 1) (aCons (eVar 2) (aCons (eVar 3) aNil)))))) sNext))))) := by rfl
theorem n_product : c_product.N.length = 7 := rfl
theorem e_product : s_product = (sSeq (sDrop (eCall F_check_modulus (aCons (eVar 0) aNil))) (sSeq (sDrop (eCall F_check_width (aCons (eVar 1) aNil))) (sSeq (sDrop (eCall F_check_matrix (aCons (eVar 0) (aCons (eVar 1) (aCons (eVar 3) aNil))))) (sSeq (sDrop (eCall F_check_matrix (aCons (eVar 0) (aCons (eCallG gLen (aCons (eVar 3) aNil)) (aCons (eVar 2) aNil))))) (sSeq (sSet 4 (eCall F_columns_of (aCons (eVar 1) (aCons (eVar 3) aNil)))) (sSeq (sRet (eCallG gTuple (aCons (eLc (iSeq (eVar 2)) (.nm 5) tYesF (eCallG gTuple (aCons (eLc (iSeq (eVar 4)) (.nm 6) tYesF (eCall F_dot_product (aCons (eVar 0) (aCons (eVar 5) (aCons (eVar 6) aNil)))) [6]) aNil)) [5]) aNil))) sNext)))))) := by rfl
theorem n_transposed : c_transposed.N.length = 3 := rfl
theorem e_transposed : s_transposed = (sSeq (sDrop (eCall F_check_modulus (aCons (eVar 0) aNil))) (sSeq (sDrop (eCall F_check_width (aCons (eVar 1) aNil))) (sSeq (sDrop (eCall F_check_matrix (aCons (eVar 0) (aCons (eVar 1) (aCons (eVar 2) aNil))))) (sSeq (sRet (eCall F_columns_of (aCons (eVar 1) (aCons (eVar 2) aNil)))) sNext)))) := by rfl
theorem n_law_pot : c_law_pot.N.length = 4 := rfl
theorem e_law_pot : s_law_pot = (sSeq (sSet 2 (eBin gAdd (eBin gMul (eC (.int 6)) (eVar 1)) (eC (.int 1)))) (sSeq (sIf (tBl (eBin gLt (eVar 1) (eCallG gLen (aCons (eVar 0) aNil)))) (sSeq (sSet 2 (eBin gAdd (eBin gMul (eBin gModI (eCallG gAbs (aCons (eBin gIx (eVar 0) (eVar 1)) aNil)) (eBin gPowW (eBin gPowW (eC (.int 10)) (eC (.int 60))) (eC (.int 14)))) (eC (.int 2))) (eCallG gInt (aCons (eBin gLt (eBin gIx (eVar 0) (eVar 1)) (eC (.int 0))) aNil)))) sNext) sNext) (sSeq (sSet 3 (eBin gModI (eBin gPowW (eBin gAdd (eBin gAdd (eBin gModI (eVar 2) (eC (.int 2305843009213693967))) (eBin gMul (eC (.int 130363)) (eVar 1))) (eC (.int 29))) (eC (.int 3))) (eC (.int 2305843009213693951)))) (sSeq (sRet (eLoc (aCons (eBin gMul (eBin gFDivI (eVar 2) (eBin gPowW (eC (.int 10)) (eC (.int 18)))) (eCallG gInt (aCons (eBin gGe (eVar 2) (eBin gPowW (eC (.int 10)) (eC (.int 18)))) aNil))) (aCons (eVar 3) (aCons (eC (.int 0)) aNil))))) sNext)))) := by rfl
theorem n_law_take : c_law_take.N.length = 5 := rfl
theorem e_law_take : s_law_take = (sSeq (sIf (tBl (eBin gGt (eBin gIx (eVar 0) (eC (.int 0))) (eC (.int 0)))) (sSeq (sSet 2 (eBin gModI (eBin gIx (eVar 0) (eC (.int 0))) (eVar 1))) (sSeq (sPut (eVar 0) (eC (.int 0)) (eBin gFDivI (eBin gIx (eVar 0) (eC (.int 0))) (eVar 1))) (sSeq (sRet (eVar 2)) sNext))) sNext) (sSeq (sPut (eVar 0) (eC (.int 2)) (eBin gAdd (eBin gIx (eVar 0) (eC (.int 2))) (eC (.int 1)))) (sSeq (sSet 3 (eBin gModI (eBin gPowW (eBin gAdd (eBin gIx (eVar 0) (eC (.int 1))) (eBin gMul (eC (.int 67867967)) (eBin gIx (eVar 0) (eC (.int 2))))) (eC (.int 3))) (eC (.int 2305843009213693921)))) (sSeq (sSet 4 (eBin gModI (eBin gPowW (eBin gAdd (eBin gAdd (eVar 3) (eBin gModI (eBin gIx (eVar 0) (eC (.int 1))) (eC (.int 1000033)))) (eBin gMul (eC (.int 41)) (eBin gIx (eVar 0) (eC (.int 2))))) (eC (.int 5))) (eC (.int 2305843009213693951)))) (sSeq (sRet (eBin gModI (eBin gFDivI (eVar 4) (eC (.int 8192))) (eVar 1))) sNext))))) := by rfl
theorem n_law_modulus : c_law_modulus.N.length = 1 := rfl
theorem e_law_modulus : s_law_modulus = (sSeq (sRet (eBin gIx (eLst (aCons (eC (.int 2)) (aCons (eC (.int 3)) (aCons (eC (.int 5)) (aCons (eC (.int 7)) (aCons (eC (.int 2)) (aCons (eC (.int 3)) (aCons (eC (.int 31)) (aCons (eC (.int 97)) aNil))))))))) (eCall F_law_take (aCons (eVar 0) (aCons (eC (.int 8)) aNil))))) sNext) := by rfl
theorem n_law_vector : c_law_vector.N.length = 5 := rfl
theorem e_law_vector : s_law_vector = (sSeq (sSet 3 (eBin gAdd (eC (.int 1)) (eCall F_law_take (aCons (eVar 0) (aCons (eC (.int 3)) aNil))))) (sSeq (sRet (eCallG gTuple (aCons (eLc (iRange1 (eVar 2)) (.nm 4) tYesF (eBin gMul (eCall F_law_take (aCons (eVar 0) (aCons (eVar 1) aNil))) (eCallG gInt (aCons (eBin gEQ (eCall F_law_take (aCons (eVar 0) (aCons (eVar 3) aNil))) (eC (.int 0))) aNil))) [4]) aNil))) sNext)) := by rfl
theorem n_law_matrix : c_law_matrix.N.length = 5 := rfl
theorem e_law_matrix : s_law_matrix = (sSeq (sRet (eCallG gTuple (aCons (eLc (iRange1 (eVar 3)) (.nm 4) tYesF (eCall F_law_vector (aCons (eVar 0) (aCons (eVar 1) (aCons (eVar 2) aNil)))) [4]) aNil))) sNext) := by rfl
theorem n_law_combined : c_law_combined.N.length = 9 := rfl
theorem e_law_combined : s_law_combined = (sSeq (sSet 4 (eBin gMul (eLst (aCons (eC (.int 0)) aNil)) (eVar 1))) (sSeq (sFor (iZip (eVar 3) (eVar 2)) (.tp [5, 6]) (sSeq (sSet 4 (eLc (iZip (eVar 4) (eVar 6)) (.tp [7, 8]) tYesF (eBin gModI (eBin gAdd (eVar 7) (eBin gMul (eVar 5) (eVar 8))) (eVar 0)) [7, 8])) sNext)) (sSeq (sRet (eCallG gTuple (aCons (eVar 4) aNil))) sNext))) := by rfl
theorem n_law_columns : c_law_columns.N.length = 4 := rfl
theorem e_law_columns : s_law_columns = (sSeq (sRet (eCallG gTuple (aCons (eLc (iRange1 (eVar 0)) (.nm 2) tYesF (eCallG gTuple (aCons (eLc (iSeq (eVar 1)) (.nm 3) tYesF (eBin gIx (eVar 3) (eVar 2)) [3]) aNil)) [2]) aNil))) sNext) := by rfl
theorem n_law_sums_right : c_law_sums_right.N.length = 16 := rfl
theorem e_law_sums_right : s_law_sums_right = (sSeq (sSet 3 (eCall F_law_matrix (aCons (eVar 0) (aCons (eVar 1) (aCons (eVar 2) (aCons (eC (.int 4)) aNil)))))) (sSeq (sTup (.tp [4, 5, 6, 7]) (eVar 3)) (sSeq (sSet 8 (eLoc (aCons (eCall F_added (aCons (eVar 1) (aCons (eVar 4) aNil))) (aCons (eCall F_added (aCons (eVar 1) (aCons (eVar 4) (aCons (eVar 5) aNil)))) (aCons (eCall F_added (aCons (eVar 1) (aCons (eVar 4) (aCons (eVar 5) (aCons (eVar 6) aNil))))) aNil))))) (sSeq (sDrop (eApp (eVar 8) (eCall F_added (aCons (eVar 1) (aCons (eVar 4) (aCons (eVar 5) (aCons (eVar 6) (aCons (eVar 7) aNil)))))))) (sSeq (sSet 9 (eLcM (iRange2 (eC (.int 1)) (eC (.int 5))) (.nm 13) tYesF (eCall F_law_combined (aCons (eVar 1) (aCons (eVar 2) (aCons (eSlice (eVar 3) oNone (oSome (eVar 13))) (aCons (eBin gMul (eTup (aCons (eC (.int 1)) aNil)) (eVar 13)) aNil))))) [13])) (sSeq (sSet 10 (eCall F_law_take (aCons (eVar 0) (aCons (eVar 1) aNil)))) (sSeq (sDrop (eApp (eVar 8) (eCall F_scaled (aCons (eVar 1) (aCons (eVar 10) (aCons (eVar 4) aNil)))))) (sSeq (sDrop (eApp (eVar 9) (eCall F_law_combined (aCons (eVar 1) (aCons (eVar 2) (aCons (eTup (aCons (eVar 4) aNil)) (aCons (eTup (aCons (eVar 10) aNil)) aNil))))))) (sSeq (sSet 8 (eBin gAdd (eVar 8) (eLst (aCons (eCall F_dot (aCons (eVar 1) (aCons (eVar 4) (aCons (eVar 5) aNil)))) (aCons (eCall F_dot (aCons (eVar 1) (aCons (eVar 5) (aCons (eVar 4) aNil)))) (aCons (eCall F_dot (aCons (eVar 1) (aCons (eVar 4) (aCons (eCall F_added (aCons (eVar 1) (aCons (eVar 5) (aCons (eVar 6) aNil)))) aNil)))) aNil)))))) (sSeq (sSet 11 (eCallG gSum (aCons (eLc (iZip (eVar 4) (eVar 5)) (.tp [14, 15]) tYesF (eBin gMul (eVar 14) (eVar 15)) [14, 15]) aNil))) (sSeq (sSet 12 (eCallG gSum (aCons (eLc (iZip (eVar 4) (eVar 6)) (.tp [14, 15]) tYesF (eBin gMul (eVar 14) (eVar 15)) [14, 15]) aNil))) (sSeq (sRet (eBin gEQ (eCallG gRepr (aCons (eVar 8) aNil)) (eCallG gRepr (aCons (eBin gAdd (eVar 9) (eLst (aCons (eBin gModI (eVar 11) (eVar 1)) (aCons (eBin gModI (eVar 11) (eVar 1)) (aCons (eBin gModI (eBin gAdd (eVar 11) (eVar 12)) (eVar 1)) aNil))))) aNil)))) sNext)))))))))))) := by rfl
theorem n_law_products_right : c_law_products_right.N.length = 16 := rfl
theorem e_law_products_right : s_law_products_right = (sSeq (sTup (.tp [3, 4, 5, 6]) (eVar 2)) (sSeq (sTup (.tp [7, 8]) (eTup (aCons (eCall F_law_matrix (aCons (eVar 0) (aCons (eVar 1) (aCons (eVar 4) (aCons (eVar 3) aNil))))) (aCons (eCall F_law_matrix (aCons (eVar 0) (aCons (eVar 1) (aCons (eVar 5) (aCons (eVar 4) aNil))))) aNil)))) (sSeq (sSet 9 (eCall F_law_matrix (aCons (eVar 0) (aCons (eVar 1) (aCons (eVar 6) (aCons (eVar 5) aNil)))))) (sSeq (sSet 10 (eCallG gRepr (aCons (eTup (aCons (eVar 7) (aCons (eVar 8) (aCons (eVar 9) aNil)))) aNil))) (sSeq (sSet 11 (eCall F_product (aCons (eVar 1) (aCons (eVar 5) (aCons (eVar 7) (aCons (eVar 8) aNil)))))) (sSeq (sIf (tBl (eBin gNE (eCallG gRepr (aCons (eVar 11) aNil)) (eCallG gRepr (aCons (eCallG gTuple (aCons (eLc (iSeq (eVar 7)) (.nm 15) tYesF (eCall F_law_combined (aCons (eVar 1) (aCons (eVar 5) (aCons (eVar 8) (aCons (eVar 15) aNil))))) [15]) aNil)) aNil)))) (sSeq (sRet (eC (.bl false))) sNext) sNext) (sSeq (sIf (tBl (eBin gNE (eCall F_product (aCons (eVar 1) (aCons (eVar 6) (aCons (eVar 11) (aCons (eVar 9) aNil))))) (eCall F_product (aCons (eVar 1) (aCons (eVar 6) (aCons (eVar 7) (aCons (eCall F_product (aCons (eVar 1) (aCons (eVar 6) (aCons (eVar 8) (aCons (eVar 9) aNil))))) aNil))))))) (sSeq (sRet (eC (.bl false))) sNext) sNext) (sSeq (sSet 12 (eCall F_transposed (aCons (eVar 1) (aCons (eVar 4) (aCons (eVar 7) aNil))))) (sSeq (sIf (tOrF (tBl (eBin gNE (eCallG gRepr (aCons (eVar 12) aNil)) (eCallG gRepr (aCons (eCall F_law_columns (aCons (eVar 4) (aCons (eVar 7) aNil))) aNil)))) (tBl (eBin gNE (eCallG gRepr (aCons (eCall F_transposed (aCons (eVar 1) (aCons (eVar 3) (aCons (eVar 12) aNil)))) aNil)) (eCallG gRepr (aCons (eVar 7) aNil))))) (sSeq (sRet (eC (.bl false))) sNext) sNext) (sSeq (sIf (tBl (eBin gNE (eCall F_transposed (aCons (eVar 1) (aCons (eVar 5) (aCons (eVar 11) aNil)))) (eCall F_product (aCons (eVar 1) (aCons (eVar 3) (aCons (eCall F_transposed (aCons (eVar 1) (aCons (eVar 5) (aCons (eVar 8) aNil)))) (aCons (eVar 12) aNil))))))) (sSeq (sRet (eC (.bl false))) sNext) sNext) (sSeq (sSet 13 (eCall F_law_vector (aCons (eVar 0) (aCons (eVar 1) (aCons (eVar 5) aNil))))) (sSeq (sFor (iRange1 (eC (.int 2))) (.nm 14) (sSeq (sIf (tBl (eBin gNE (eCallG gRepr (aCons (eCall F_combination (aCons (eVar 1) (aCons (eVar 6) (aCons (eVar 9) (aCons (eVar 13) aNil))))) aNil)) (eCallG gRepr (aCons (eCall F_law_combined (aCons (eVar 1) (aCons (eVar 6) (aCons (eVar 9) (aCons (eVar 13) aNil))))) aNil)))) (sSeq (sRet (eC (.bl false))) sNext) sNext) sNext)) (sSeq (sRet (eBin gEQ (eCallG gRepr (aCons (eTup (aCons (eVar 7) (aCons (eVar 8) (aCons (eVar 9) aNil)))) aNil)) (eVar 10))) sNext))))))))))))) := by rfl
theorem n_law : c_law.N.length = 10 := rfl
theorem e_law : s_law = (sSeq (sFor (iRange1 (eCallG gMax (aCons (eC (.int 1)) (aCons (eCallG gMin (aCons (eC (.int 8)) (aCons (eCallG gLen (aCons (eVar 0) aNil)) aNil))) aNil)))) (.nm 1) (sSeq (sSet 2 (eCall F_law_pot (aCons (eVar 0) (aCons (eVar 1) aNil)))) (sSeq (sSet 3 (eCall F_law_modulus (aCons (eVar 2) aNil))) (sSeq (sIf (tNotF (tVal (eCall F_law_sums_right (aCons (eVar 2) (aCons (eVar 3) (aCons (eIfF (tBl (eBin gEQ (eVar 1) (eC (.int 0)))) (eC (.int 100)) (eCall F_law_take (aCons (eVar 2) (aCons (eC (.int 8)) aNil)))) aNil)))))) (sSeq (sRet (eC (.bl false))) sNext) sNext) (sSeq (sFor (iRange1 (eC (.int 3))) (.nm 4) (sSeq (sSet 5 (eLst (aCons (eCall F_law_take (aCons (eVar 2) (aCons (eC (.int 6)) aNil))) (aCons (eBin gAdd (eC (.int 1)) (eCall F_law_take (aCons (eVar 2) (aCons (eC (.int 5)) aNil)))) (aCons (eBin gAdd (eC (.int 1)) (eCall F_law_take (aCons (eVar 2) (aCons (eC (.int 5)) aNil)))) (aCons (eCall F_law_take (aCons (eVar 2) (aCons (eC (.int 8)) aNil))) aNil)))))) (sSeq (sIf (tNotF (tVal (eCall F_law_products_right (aCons (eVar 2) (aCons (eVar 3) (aCons (eVar 5) aNil)))))) (sSeq (sRet (eC (.bl false))) sNext) sNext) sNext))) sNext))))) (sSeq (sSet 6 (eLoc (aCons (eCall F_added (aCons (eC (.int 5)) (aCons (eTup aNil) aNil))) (aCons (eCall F_scaled (aCons (eC (.int 5)) (aCons (eC (.int 3)) (aCons (eTup aNil) aNil)))) (aCons (eCall F_dot (aCons (eC (.int 5)) (aCons (eTup aNil) (aCons (eTup aNil) aNil)))) (aCons (eCall F_combination (aCons (eC (.int 5)) (aCons (eC (.int 0)) (aCons (eTup (aCons (eTup aNil) (aCons (eTup aNil) aNil))) (aCons (eTup (aCons (eC (.int 1)) (aCons (eC (.int 4)) aNil))) aNil))))) aNil)))))) (sSeq (sDrop (eApp (eVar 6) (eCall F_product (aCons (eC (.int 5)) (aCons (eC (.int 3)) (aCons (eTup aNil) (aCons (eTup aNil) aNil))))))) (sSeq (sIf (tOrF (tBl (eBin gNE (eVar 6) (eLst (aCons (eTup aNil) (aCons (eTup aNil) (aCons (eC (.int 0)) (aCons (eTup aNil) (aCons (eTup aNil) aNil)))))))) (tBl (eBin gNE (eCall F_product (aCons (eC (.int 5)) (aCons (eC (.int 2)) (aCons (eTup (aCons (eTup aNil) (aCons (eTup aNil) aNil))) (aCons (eTup aNil) aNil))))) (eTup (aCons (eTup (aCons (eC (.int 0)) (aCons (eC (.int 0)) aNil))) (aCons (eTup (aCons (eC (.int 0)) (aCons (eC (.int 0)) aNil))) aNil)))))) (sSeq (sRet (eC (.bl false))) sNext) sNext) (sSeq (sIf (tBl (eBin gNE (eCall F_combination (aCons (eC (.int 97)) (aCons (eC (.int 2)) (aCons (eBin gMul (eTup (aCons (eTup (aCons (eC (.int 96)) (aCons (eC (.int 1)) aNil))) aNil)) (eC (.int 100))) (aCons (eBin gMul (eTup (aCons (eC (.int 96)) aNil)) (eC (.int 100))) aNil))))) (eTup (aCons (eBin gModI (eC (.int 100)) (eC (.int 97))) (aCons (eBin gModI (eBin gMul (eC (.int 96)) (eC (.int 100))) (eC (.int 97))) aNil))))) (sSeq (sRet (eC (.bl false))) sNext) sNext) (sSeq (sSet 7 (eCallG gTuple (aCons (eLc (iRange1 (eC (.int 100))) (.nm 9) tYesF (eTup (aCons (eBin gModI (eVar 9) (eC (.int 97))) (aCons (eBin gModI (eBin gMul (eC (.int 7)) (eVar 9)) (eC (.int 97))) (aCons (eBin gModI (eBin gMul (eVar 9) (eVar 9)) (eC (.int 97))) aNil)))) [9]) aNil))) (sSeq (sIf (tBl (eBin gNE (eCall F_product (aCons (eC (.int 97)) (aCons (eC (.int 3)) (aCons (eCallG gTuple (aCons (eLc (iRange1 (eC (.int 100))) (.nm 9) tYesF (eBin gAdd (eBin gAdd (eBin gMul (eTup (aCons (eC (.int 0)) aNil)) (eVar 9)) (eTup (aCons (eC (.int 1)) aNil))) (eBin gMul (eTup (aCons (eC (.int 0)) aNil)) (eBin gSubI (eC (.int 99)) (eVar 9)))) [9]) aNil)) (aCons (eVar 7) aNil))))) (eVar 7))) (sSeq (sRet (eC (.bl false))) sNext) sNext) (sSeq (sSet 8 (eCall F_transposed (aCons (eC (.int 97)) (aCons (eC (.int 3)) (aCons (eVar 7) aNil))))) (sSeq (sIf (tOrF (tBl (eBin gNE (eVar 8) (eCall F_law_columns (aCons (eC (.int 3)) (aCons (eVar 7) aNil))))) (tBl (eBin gNE (eCall F_transposed (aCons (eC (.int 97)) (aCons (eC (.int 100)) (aCons (eVar 8) aNil)))) (eVar 7)))) (sSeq (sRet (eC (.bl false))) sNext) sNext) (sSeq (sIf (tBl (eBin gNE (eCallG gLen (aCons (eBin gIx (eCall F_product (aCons (eC (.int 97)) (aCons (eC (.int 100)) (aCons (eVar 7) (aCons (eVar 8) aNil))))) (eC (.int 99))) aNil)) (eC (.int 100)))) (sSeq (sRet (eC (.bl false))) sNext) sNext) (sSeq (sIf (tBl (eBin gNE (eCall F_added (aCons (eC (.int 97)) (aCons (eBin gIx (eVar 7) (eC (.int 1))) (aCons (eBin gIx (eVar 7) (eC (.int 2))) (aCons (eBin gIx (eVar 7) (eC (.int 3))) (aCons (eBin gIx (eVar 7) (eC (.int 4))) (aCons (eBin gIx (eVar 7) (eC (.int 5))) (aCons (eBin gIx (eVar 7) (eC (.int 6))) (aCons (eBin gIx (eVar 7) (eC (.int 7))) aNil))))))))) (eTup (aCons (eC (.int 28)) (aCons (eC (.int 2)) (aCons (eBin gModI (eC (.int 140)) (eC (.int 97))) aNil)))))) (sSeq (sRet (eC (.bl false))) sNext) sNext) (sSeq (sRet (eAndF (eBin gEQ (eCall F_transposed (aCons (eC (.int 2)) (aCons (eC (.int 3)) (aCons (eTup aNil) aNil)))) (eTup (aCons (eTup aNil) (aCons (eTup aNil) (aCons (eTup aNil) aNil))))) (eBin gEQ (eCall F_transposed (aCons (eC (.int 2)) (aCons (eC (.int 0)) (aCons (eBin gMul (eTup (aCons (eTup aNil) aNil)) (eC (.int 3))) aNil)))) (eTup aNil)))) sNext)))))))))))) := by rfl
end EV

namespace EV
open PySem L2
theorem is_int_i (i : Int) (S : Sto) : F_is_int [.int i] S = .ok (.bl true) S := by
  simp [F_is_int, fcOf, startD, n_is_int, e_is_int, eVar]
def num (p i : Int) : Bool := decide (0 ≤ i) && decide (i < p)
theorem is_number_i (p i : Int) (S : Sto) : F_is_number [.int p, .int i] S = .ok (.bl (num p i)) S := by
  simp [F_is_number, fcOf, startD, n_is_number, e_is_number, eVar, is_int_i, eChain, num]
  by_cases h : 0 ≤ i <;> simp [h]
theorem are_numbers_v (p : Int) (v : List Int) (S : Sto) (hz : v.length ≤ 16777216) : F_are_numbers [.int p, dV v] S = .ok (.bl (v.all (num p))) S := by
  have h := fun ρ => lc_map (tg := .nm 2) (a := eCall F_is_number (aCons (eVar 0) (aCons (eVar 2) aNil))) (ρ := [some (.int p), ρ, none]) (S := S) .int (fun i => .bl (num p i)) v (fun i hi => ⟨_, rfl, by simp [eVar, is_number_i]⟩)
  simp [F_are_numbers, fcOf, startD, n_are_numbers, e_are_numbers, eVar, dV, wipeD, lt_sz hz, h]
/-- a matrix of vectors of a width -/
def mat (p w : Int) (m : List (List Int)) : Bool := decide ((m.length : Int) ≤ 100) && m.all fun v => v.all (num p) && decide ((v.length : Int) = w)
theorem are_vectors_m (p w : Int) (m : List (List Int)) (S : Sto) (hz : ∀ v ∈ m, v.length ≤ 16777216) : F_are_vectors [.int p, .int w, dM m] S = .ok (.bl (mat p w m)) S := by
  have h := fun ρ => lc_map (tg := .nm 3) (a := eAndF (eCall F_are_numbers (aCons (eVar 0) (aCons (eVar 3) aNil))) (eBin gEQ (eCallG gLen (aCons (eVar 3) aNil)) (eVar 1))) (ρ := [some (.int p), some (.int w), ρ, none]) (S := S) dV (fun v => .bl (v.all (num p) && decide ((v.length : Int) = w))) m (fun v hv => ⟨_, rfl, by
    simp only [x_and, x_call, x_ac, x_an, eVar, List.set, List.getElem?_cons_succ, List.getElem?_cons_zero, bind_ok, are_numbers_v p v S (hz v hv), t_bl, ofOpt_some, x_bin, x_callG]
    by_cases e : v.all (num p) = true
    · simp [e, dV, eqI]
    · simp [e]⟩)
  by_cases hl : (m.length : Int) ≤ 100
  · have hl2 : ¬ (100 : Int) < m.length := by omega
    simp [F_are_vectors, fcOf, startD, n_are_vectors, e_are_vectors, eVar, dM, wipeD, lt_sz (n := m.length) (by omega), h, x_tBl, hl2, mat, hl]
  · have hl2 : (100 : Int) < m.length := by omega
    simp [F_are_vectors, fcOf, startD, n_are_vectors, e_are_vectors, eVar, dM, wipeD, x_tBl, hl2, mat, hl]
/-! ### the program's own functions -/
def isMod (p : Int) : Bool := !(decide (p < 2) || decide (97 < p)) && [2, 3, 5, 7].all fun d : Int => decide (p = d) || !decide (p % d = 0)
theorem is_modulus_i (p : Int) (S : Sto) : F_is_modulus [.int p] S = .ok (.bl (isMod p)) S := by
  have h := fun ρ => lc_map (tg := .nm 1) (a := eOrF (eBin gEQ (eVar 0) (eVar 1)) (eBin gNE (eBin gModI (eVar 0) (eVar 1)) (eC (.int 0)))) (ρ := [some (.int p), ρ]) (S := S) D.int (fun d => .bl (decide (p = d) || !decide (p % d = 0))) [2, 3, 5, 7] (fun d hd => ⟨_, rfl, by
    have hp : 0 < d := by simp at hd; omega
    simp only [x_or, x_bin, eVar, List.set, List.getElem?_cons_succ, List.getElem?_cons_zero, bind_ok, eqI, ofOpt_some, t_bl, x_modI hp, x_c, id]
    by_cases e : p = d <;> simp [e]⟩)
  simp only [List.map_cons, List.map_nil] at h
  by_cases h1 : p < 2
  · simp [F_is_modulus, fcOf, startD, n_is_modulus, e_is_modulus, eVar, is_int_i, x_tBl, h1, isMod]
  · by_cases h2 : 97 < p
    · simp [F_is_modulus, fcOf, startD, n_is_modulus, e_is_modulus, eVar, is_int_i, x_tBl, h1, h2, isMod]
    · simp [F_is_modulus, fcOf, startD, n_is_modulus, e_is_modulus, eVar, is_int_i, x_tBl, h1, h2, isMod, wipeD, lt_sz, h, truDs, flatD, truF]
theorem check_modulus_i {p : Int} (h : isMod p = true) (S : Sto) : F_check_modulus [.int p] S = .ok .non S := by
  simp [F_check_modulus, fcOf, startD, n_check_modulus, e_check_modulus, eVar, is_modulus_i, h]
theorem check_number_i {p i : Int} (h : num p i = true) (S : Sto) : F_check_number [.int p, .int i] S = .ok .non S := by
  simp [F_check_number, fcOf, startD, n_check_number, e_check_number, eVar, is_number_i, h]
theorem check_width_i {i : Int} (h0 : 0 ≤ i) (h1 : i ≤ 100) (S : Sto) : F_check_width [.int i] S = .ok .non S := by
  have a : ¬ i < 0 := by omega
  have b : ¬ 100 < i := by omega
  simp [F_check_width, fcOf, startD, n_check_width, e_check_width, eVar, is_int_i, x_tBl, a, b]
theorem check_vector_v {p : Int} {v : List Int} (h : v.all (num p) = true) (hz : v.length ≤ 16777216) (S : Sto) : F_check_vector [.int p, dV v] S = .ok .non S := by
  simp [F_check_vector, fcOf, startD, n_check_vector, e_check_vector, eVar, are_numbers_v p v S hz, h]
theorem check_vector_of_v {p n : Int} {v : List Int} (h : v.all (num p) = true) (hz : v.length ≤ 16777216) (hn : (v.length : Int) = n) (S : Sto) : F_check_vector_of [.int p, .int n, dV v] S = .ok .non S := by
  have g : gLen S [dV v] = some (.int v.length) := by simp [dV]
  simp [F_check_vector_of, fcOf, startD, n_check_vector_of, e_check_vector_of, eVar, check_vector_v h hz, x_tBl, g, eqI, hn]
theorem check_matrix_m {p w : Int} {m : List (List Int)} (h : mat p w m = true) (hz : ∀ v ∈ m, v.length ≤ 16777216) (S : Sto) : F_check_matrix [.int p, .int w, dM m] S = .ok .non S := by
  simp [F_check_matrix, fcOf, startD, n_check_matrix, e_check_matrix, eVar, are_vectors_m p w m S hz, h]
/-- columns -/
def cols (w : Nat) (m : List (List Int)) : List (List Int) := (List.range w).map fun j => m.map fun v => v.getD j 0
theorem ix_v {v : List Int} {j : Nat} (h : j < v.length) (S : Sto) : gIx S (dV v) (.int (j : Int)) = some (.int (v.getD j 0)) := by
  have h1 : ¬ ((j : Int) < 0) := by omega
  have h2 : (j : Int) < v.length := by omega
  simp [gIx, dV, itemsS, itemsT, L2.atI, ixN, h1, h2, h]
theorem columns_of_m {w : Nat} {m : List (List Int)} (hw : ∀ v ∈ m, w ≤ v.length) (hz : m.length ≤ 16777216) (hz2 : w ≤ 16777216) (S : Sto) : F_columns_of [.int w, dM m] S = .ok (dM (cols w m)) S := by
  have inner := fun (j : Nat) (hj : j < w) (r : Option D) => lc_map (tg := .nm 3) (a := eBin gIx (eVar 3) (eVar 2)) (ρ := [some (.int w), some (dM m), some (.int (j : Int)), r]) (S := S) dV (fun v => .int (v.getD j 0)) m (fun v hv => ⟨_, rfl, by
    have := hw v hv
    simp [eVar, ix_v (show j < v.length by omega)]⟩)
  have h := fun (r : Option D) => lc_map (tg := .nm 2) (a := eCallG gTuple (aCons (eLc (iSeq (eVar 1)) (.nm 3) tYesF (eBin gIx (eVar 3) (eVar 2)) [3]) aNil)) (ρ := [some (.int w), some (.tup (m.map dV)), r, none]) (S := S) (fun j : Nat => D.int (j : Int)) (fun j => dV (m.map fun v => v.getD j 0)) (List.range w) (fun j hj => ⟨_, rfl, by
    have hj := List.mem_range.mp hj
    have q := inner j hj none
    simp only [dM] at q
    simp [eVar, dM, wipeD, lt_sz hz, q, dV, Function.comp_def]⟩)
  have e1 : iRange1 (eVar 0) [some (.int w), some (.tup (m.map dV)), none, none] S = .ok ((List.range w).map fun j : Nat => D.int (j : Int)) S := x_range rfl (b62_n hz2)
  have e0 : endD (s_columns_of [some (.int w), some (.tup (m.map dV)), none, none] S) = .ok (dM (cols w m)) S := by
    rw [e_columns_of]
    simp [e1, wipeD, lt_sz hz2, dM, h, cols, Function.comp_def]
  exact e0
/-- zip of two vectors -/
theorem zip_v : ∀ (a b : List Int), zipD (a.map D.int) (b.map D.int) = (a.zip b).map fun q => D.tup [.int q.1, .int q.2]
  | [], b => by simp [zipD]
  | x :: a, [] => by simp [zipD]
  | x :: a, y :: b => by simp [zipD, zip_v a b]
def dotp (p : Int) (a b : List Int) : Int := ((a.zip b).map fun q => q.1 * q.2).sum % p
def small (v : List Int) : Prop := ∀ x ∈ v, -(2 ^ 64) < x ∧ x < 2 ^ 64
theorem dot_product_v {p : Int} {a b : List Int} (hp : 0 < p) (ha : small a) (hz : a.length ≤ 16777216) (S : Sto) : F_dot_product [.int p, dV a, dV b] S = .ok (.int (dotp p a b)) S := by
  have h := fun (r1 r2 : Option D) => lc_map (tg := .tp [3, 4]) (a := eBin gMul (eVar 3) (eVar 4)) (ρ := [some (.int p), some (.tup (a.map .int)), some (.tup (b.map .int)), r1, r2]) (S := S) (fun q : Int × Int => D.tup [.int q.1, .int q.2]) (fun q => .int (q.1 * q.2)) (a.zip b) (fun q hq => ⟨_, rfl, by
    have hs := ha q.1 (List.of_mem_zip hq).1
    simp [setD, eVar, x_mulI (mul_small hs.1 hs.2)]⟩)
  have hl : (a.zip b).length ≤ 16777216 := by rw [List.length_zip]; omega
  simp only [List.length_zip] at hl
  have e0 : endD (s_dot_product [some (.int p), some (.tup (a.map .int)), some (.tup (b.map .int)), none, none] S) = .ok (.int (dotp p a b)) S := by
    rw [e_dot_product]
    simp [iZip, kdD, eVar, zip_v, wipeD, lt_sz hl, h, x_modI hp, dotp]
  exact e0
theorem multiple_v {p k : Int} {v : List Int} (hp : 0 < p) (h1 : -(2 ^ 64) < k) (h2 : k < 2 ^ 64) (hz : v.length ≤ 16777216) (S : Sto) : F_multiple [.int p, .int k, dV v] S = .ok (dV (v.map fun x => k * x % p)) S := by
  have h := fun (r : Option D) => lc_map (tg := .nm 3) (a := eBin gModI (eBin gMul (eVar 1) (eVar 3)) (eVar 0)) (ρ := [some (.int p), some (.int k), some (.tup (v.map .int)), r]) (S := S) D.int (fun x => .int (k * x % p)) v (fun q hq => ⟨_, rfl, by
    simp [eVar, x_mulI (mul_small h1 h2), x_modI hp]⟩)
  have e0 : endD (s_multiple [some (.int p), some (.int k), some (.tup (v.map .int)), none] S) = .ok (dV (v.map fun x => k * x % p)) S := by
    rw [e_multiple]
    simp [eVar, wipeD, lt_sz hz, h, dV, Function.comp_def]
  exact e0
end EV

namespace EV
open PySem L2
theorem isMod_le {p : Int} (h : isMod p = true) : 2 ≤ p ∧ p ≤ 97 := by
  simp [isMod] at h
  omega
theorem small_of {p : Int} {v : List Int} (h : v.all (num p) = true) (hp : p ≤ 97) : small v := fun x hx => by
  rw [List.all_eq_true] at h
  have := h x hx
  simp [num] at this
  omega
theorem dV_map {β : Type} (f : β → Int) (l : List β) : dV (l.map f) = .tup (l.map fun b => .int (f b)) := by
  unfold dV
  rw [List.map_map]
  rfl
theorem len_cols (w : Nat) (m : List (List Int)) : (cols w m).length = w := by simp [cols]
theorem combined_m {p : Int} {w : Nat} {m : List (List Int)} {f : List Int} (hp : 0 < p) (hf : small f) (hz : f.length ≤ 16777216) (hw : ∀ v ∈ m, w ≤ v.length) (hz1 : m.length ≤ 16777216) (hz2 : w ≤ 16777216) (S : Sto) :
    F_combined [.int p, .int w, dM m, dV f] S = .ok (dV ((cols w m).map fun c => dotp p f c)) S := by
  have h := fun (r : Option D) => lc_map (tg := .nm 4) (a := eCall F_dot_product (aCons (eVar 0) (aCons (eVar 3) (aCons (eVar 4) aNil)))) (ρ := [some (.int p), some (.int w), some (dM m), some (dV f), r]) (S := S) dV (fun c => .int (dotp p f c)) (cols w m) (fun q hq => ⟨_, rfl, by
    simp [eVar, dot_product_v hp hf hz]⟩)
  have e0 : endD (s_combined [some (.int p), some (.int w), some (dM m), some (dV f), none] S) = .ok (dV ((cols w m).map fun c => dotp p f c)) S := by
    have g : itemsI (dM (cols w m)) = some ((cols w m).map dV) := rfl
    rw [e_combined, dV_map]
    simp [eVar, columns_of_m hw hz1 hz2, g, wipeD, len_cols, lt_sz hz2, h]
  exact e0
theorem scaled_v {p k : Int} {v : List Int} (hp : isMod p = true) (hk : num p k = true) (hv : v.all (num p) = true) (hz : v.length ≤ 16777216) (S : Sto) : F_scaled [.int p, .int k, dV v] S = .ok (dV (v.map fun x => k * x % p)) S := by
  have hp2 := isMod_le hp
  have hk2 := hk
  simp [num] at hk2
  have e0 : endD (s_scaled [some (.int p), some (.int k), some (dV v)] S) = .ok (dV (v.map fun x => k * x % p)) S := by
    rw [e_scaled]
    simp [eVar, check_modulus_i hp, check_number_i hk, check_vector_v hv hz, multiple_v (p := p) (k := k) (v := v) (by omega) (by omega) (by omega) hz]
  exact e0
theorem len_dV (v : List Int) (S : Sto) : gLen S [dV v] = some (.int v.length) := by simp [dV]
theorem len_dM (v : List (List Int)) (S : Sto) : gLen S [dM v] = some (.int v.length) := by simp [dM]
theorem dot_v {p : Int} {a b : List Int} (hp : isMod p = true) (ha : a.all (num p) = true) (hb : b.all (num p) = true) (hl : b.length = a.length) (hz : a.length ≤ 16777216) (S : Sto) : F_dot [.int p, dV a, dV b] S = .ok (.int (dotp p a b)) S := by
  have hp2 := isMod_le hp
  have e0 : endD (s_dot [some (.int p), some (dV a), some (dV b)] S) = .ok (.int (dotp p a b)) S := by
    rw [e_dot]
    simp [eVar, check_modulus_i hp, check_vector_v ha hz, len_dV, check_vector_of_v hb (by omega) (show (b.length : Int) = a.length by omega), dot_product_v (p := p) (b := b) (by omega) (small_of ha hp2.2) hz]
  exact e0
/-- a matrix of numbers of a width, not too long -/
structure Mat (p : Int) (w : Nat) (m : List (List Int)) : Prop where
  len : m.length ≤ 100
  row : ∀ v ∈ m, v.length = w ∧ v.all (num p) = true
theorem Mat.mat {p : Int} {w : Nat} {m : List (List Int)} (h : Mat p w m) : mat p (w : Int) m = true := by
  simp only [EV.mat, Bool.and_eq_true, decide_eq_true_eq, List.all_eq_true]
  refine ⟨by have := h.len; omega, fun v hv => ?_⟩
  obtain ⟨h1, h2⟩ := h.row v hv
  exact ⟨List.all_eq_true.mp h2, by rw [h1]⟩
theorem combination_m {p : Int} {w : Nat} {m : List (List Int)} {f : List Int} (hp : isMod p = true) (hw : w ≤ 100) (hm : Mat p w m) (hf : f.all (num p) = true) (hl : f.length = m.length) (S : Sto) :
    F_combination [.int p, .int w, dM m, dV f] S = .ok (dV ((cols w m).map fun c => dotp p f c)) S := by
  have hp2 := isMod_le hp
  have l1 := hm.len
  have z : ∀ v ∈ m, v.length ≤ 16777216 := fun v hv => by have := (hm.row v hv).1; omega
  have e0 : endD (s_combination [some (.int p), some (.int w), some (dM m), some (dV f)] S) = .ok (dV ((cols w m).map fun c => dotp p f c)) S := by
    rw [e_combination]
    simp [eVar, check_modulus_i hp, check_width_i (i := w) (by omega) (by omega), check_matrix_m hm.mat z, len_dM, check_vector_of_v hf (by omega) (show (f.length : Int) = m.length by omega),
      combined_m (p := p) (w := w) (m := m) (f := f) (by omega) (small_of hf hp2.2) (by omega) (fun v hv => by have := (hm.row v hv).1; omega) (by omega) (by omega)]
  exact e0
theorem transposed_m {p : Int} {w : Nat} {m : List (List Int)} (hp : isMod p = true) (hw : w ≤ 100) (hm : Mat p w m) (S : Sto) : F_transposed [.int p, .int w, dM m] S = .ok (dM (cols w m)) S := by
  have l1 := hm.len
  have z : ∀ v ∈ m, v.length ≤ 16777216 := fun v hv => by have := (hm.row v hv).1; omega
  have e0 : endD (s_transposed [some (.int p), some (.int w), some (dM m)] S) = .ok (dM (cols w m)) S := by
    rw [e_transposed]
    simp [eVar, check_modulus_i hp, check_width_i (i := w) (by omega) (by omega), check_matrix_m hm.mat z, columns_of_m (w := w) (m := m) (fun v hv => by have := (hm.row v hv).1; omega) (by omega) (by omega)]
  exact e0
theorem row_len {p : Int} {w : Nat} {m : List (List Int)} (hm : Mat p w m) : ∀ v ∈ m, w ≤ v.length := fun v hv => by have := (hm.row v hv).1; omega
/-- the product of two matrices: rows by columns -/
def prod (p : Int) (w : Nat) (a b : List (List Int)) : List (List Int) := a.map fun r => (cols w b).map fun c => dotp p r c
theorem product_m {p : Int} {w n : Nat} {a b : List (List Int)} (hp : isMod p = true) (hw : w ≤ 100) (hb : Mat p w b) (hn : b.length = n) (ha : Mat p n a) (S : Sto) : F_product [.int p, .int w, dM a, dM b] S = .ok (dM (prod p w a b)) S := by
  have hp2 := isMod_le hp
  have l1 := ha.len
  have l2 := hb.len
  have za : ∀ v ∈ a, v.length ≤ 16777216 := fun v hv => by have := (ha.row v hv).1; omega
  have zb : ∀ v ∈ b, v.length ≤ 16777216 := fun v hv => by have := (hb.row v hv).1; omega
  subst hn
  have inner := fun (r : List Int) (hr : r ∈ a) (q : Option D) => lc_map (tg := .nm 6) (a := eCall F_dot_product (aCons (eVar 0) (aCons (eVar 5) (aCons (eVar 6) aNil)))) (ρ := [some (.int p), some (.int w), some (dM a), some (dM b), some (dM (cols w b)), some (dV r), q]) (S := S) dV (fun c => .int (dotp p r c)) (cols w b) (fun c hc => ⟨_, rfl, by
    simp [eVar, dot_product_v (p := p) (a := r) (b := c) (by omega) (small_of (ha.row r hr).2 hp2.2) (za r hr)]⟩)
  have g : itemsI (dM (cols w b)) = some ((cols w b).map dV) := rfl
  have ga : itemsI (dM a) = some (a.map dV) := rfl
  have h := fun (q : Option D) => lc_map (tg := .nm 5) (a := eCallG gTuple (aCons (eLc (iSeq (eVar 4)) (.nm 6) tYesF (eCall F_dot_product (aCons (eVar 0) (aCons (eVar 5) (aCons (eVar 6) aNil)))) [6]) aNil)) (ρ := [some (.int p), some (.int w), some (dM a), some (dM b), some (dM (cols w b)), q, none]) (S := S) dV (fun r => dV ((cols w b).map fun c => dotp p r c)) a (fun r hr => ⟨_, rfl, by
    rw [dV_map]
    simp [eVar, g, wipeD, len_cols, lt_sz (n := w) (by omega), inner r hr]⟩)
  have e0 : endD (s_product [some (.int p), some (.int w), some (dM a), some (dM b), none, none, none] S) = .ok (.tup (a.map fun r => dV ((cols w b).map fun c => dotp p r c))) S := by
    rw [e_product]
    simp [eVar, check_modulus_i hp, check_width_i (i := w) (by omega) (by omega), check_matrix_m hb.mat zb, len_dM, check_matrix_m ha.mat za, columns_of_m (row_len hb) (show b.length ≤ 16777216 by omega) (show w ≤ 16777216 by omega), ga, wipeD, lt_sz (n := a.length) (by omega), h]
  have e1 : dM (prod p w a b) = .tup (a.map fun r => dV ((cols w b).map fun c => dotp p r c)) := by
    unfold dM prod
    rw [List.map_map]
    rfl
  rw [e1]
  exact e0
end EV

namespace EV
open PySem L2
theorem added_loop {p : Int} {v : List Int} (hz : v.length ≤ 16777216) (o : Option D) (S : Sto) : ∀ (l : List (List Int)) (r : Option D), (∀ u ∈ l, u.length = v.length ∧ u.all (num p) = true) →
    ∃ r', forLoop (.nm 3) (sSeq (sDrop (eCall F_check_vector_of (aCons (eVar 0) (aCons (eCallG gLen (aCons (eVar 1) aNil)) (aCons (eVar 3) aNil))))) sNext) (l.map dV) [some (.int p), some (dV v), o, r, none, none] S = .nx [some (.int p), some (dV v), o, r', none, none] S
  | [], r, _ => ⟨r, rfl⟩
  | u :: l, r, h => by
    obtain ⟨h1, h2⟩ := h u List.mem_cons_self
    obtain ⟨r', e⟩ := added_loop hz o S l (some (dV u)) fun x hx => h x (List.mem_cons_of_mem _ hx)
    refine ⟨r', ?_⟩
    simp only [List.map_cons, forLoop, Tgt.d, List.set]
    simp [eVar, len_dV, check_vector_of_v h2 (by omega) (show (u.length : Int) = v.length by omega), e]
theorem added_m {p : Int} {n : Nat} {v : List Int} {os : List (List Int)} (hp : isMod p = true) (hm : Mat p n (v :: os)) (hn : n ≤ 1000) (S : Sto) : F_added (.int p :: dV v :: os.map dV) S = .ok (dV ((cols n (v :: os)).map fun c => c.sum % p)) S := by
  have hp2 := isMod_le hp
  have l1 := hm.len
  have rv := hm.row v List.mem_cons_self
  simp only [List.length_cons] at l1
  obtain ⟨r', e⟩ := added_loop (p := p) (v := v) (by omega) (some (.tup (os.map dV))) S os none fun u hu => by
    have := hm.row u (List.mem_cons_of_mem _ hu)
    exact ⟨by omega, this.2⟩
  have h := fun (q : Option D) => lc_map (tg := .nm 5) (a := eBin gModI (eCallG gSum (aCons (eVar 5) aNil)) (eVar 0)) (ρ := [some (.int p), some (dV v), some (.tup (os.map dV)), r', some (dM (cols n (v :: os))), q]) (S := S) dV (fun c => .int (c.sum % p)) (cols n (v :: os)) (fun c hc => ⟨_, rfl, by
    simp [eVar, dV, x_modI (show (0 : Int) < p by omega)]⟩)
  have g : itemsI (dM (cols n (v :: os))) = some ((cols n (v :: os)).map dV) := rfl
  have c := columns_of_m (w := n) (m := v :: os) (row_len hm) (by simp only [List.length_cons]; omega) (by omega) S
  have rv1 : (v.length : Int) = n := by omega
  have dm : D.tup (dV v :: os.map dV) = dM (v :: os) := rfl
  have e0 : endD (s_added [some (.int p), some (dV v), some (.tup (os.map dV)), none, none, none] S) = .ok (dV ((cols n (v :: os)).map fun c => c.sum % p)) S := by
    rw [e_added, dV_map]
    simp [eVar, check_modulus_i hp, check_vector_v rv.2 (by omega), e, len_dV, itemsS, itemsT, lt_sz (n := os.length + 1) (by omega), dm, rv1, c, g, wipeD, len_cols, lt_sz (n := n) (by omega), h]
  have e1 : F_added (.int p :: dV v :: os.map dV) S = endD (s_added [some (.int p), some (dV v), some (.tup (os.map dV)), none, none, none] S) := by
    unfold F_added fcStar
    have hz : sz os.length = true := lt_sz (by omega)
    simp [startD, n_added, hz]
  rw [e1]
  exact e0
/-! ### the law's own functions that change nothing -/
theorem law_columns_m {w : Nat} {m : List (List Int)} (hw : ∀ v ∈ m, w ≤ v.length) (hz : m.length ≤ 16777216) (hz2 : w ≤ 16777216) (S : Sto) : F_law_columns [.int w, dM m] S = .ok (dM (cols w m)) S := columns_of_m hw hz hz2 S
end EV

namespace EV
open PySem L2
/-! ### the law's draws -/
theorem x_put {o i a : FE} {ρ : Env} {S : Sto} : sPut o i a ρ S = (a ρ S).then ρ fun v S1 => (o ρ S1).then ρ fun od S2 => (i ρ S2).then ρ fun id S3 => match putAt S3 od id v with | some S4 => .nx ρ S4 | none => .stuck := (fun _ => rfl) ()
theorem ix_loc {S : Sto} {n : Nat} {a b c : D} (h : S[n]? = some (.lst [a, b, c])) : gIx S (.loc n) (.int 0) = some a ∧ gIx S (.loc n) (.int 1) = some b ∧ gIx S (.loc n) (.int 2) = some c := by
  have e : itemsS S (.loc n) = some [a, b, c] := by simp [itemsS, itemsT, itemsR, items, h]
  have i0 : ixN 3 0 = some 0 := by decide
  have i1 : ixN 3 1 = some 1 := by decide
  have i2 : ixN 3 2 = some 2 := by decide
  refine ⟨?_, ?_, ?_⟩ <;> simp [gIx, e, L2.atI, i0, i1, i2]
theorem put_loc {S : Sto} {n : Nat} {a b c v : D} (h : S[n]? = some (.lst [a, b, c])) : putAt S (.loc n) (.int 0) v = some (S.set n (.lst [v, b, c])) ∧ putAt S (.loc n) (.int 2) v = some (S.set n (.lst [a, b, v])) := by
  have i0 : ixN 3 0 = some 0 := by decide
  have i2 : ixN 3 2 = some 2 := by decide
  constructor <;> simp [putAt, h, i0, i2]
theorem x_fdiv {S : Sto} {i j : Int} (h : fdivOk i j = true) : gFDivI S (.int i) (.int j) = some (.int (i / j)) := by simp [gFDivI, gI, h]
theorem x_pow {S : Sto} {i j : Int} (h : powOkW i j = true) : gPowW S (.int i) (.int j) = some (.int (i ^ j.toNat)) := by simp [gPowW, gI, h]
theorem pow_small {i : Int} {k : Nat} (h : i.natAbs < 2 ^ 100) (hk : k ≤ 20) : powOkW i (k : Int) = true := by
  have hb : Builtin.Int.intBits i ≤ 100 := intBits_le_iff.mpr h
  unfold powOkW
  have h1 : ((Builtin.Int.intBits i : Nat) : Int) * (k : Int) ≤ 100 * 20 := by
    have : Builtin.Int.intBits i * k ≤ 100 * 20 := Nat.mul_le_mul hb hk
    exact_mod_cast this
  simp only [Bool.and_eq_true, decide_eq_true_eq]
  refine ⟨by omega, ?_⟩
  omega
theorem fdiv_small {i j : Int} (h : 0 < j) (h2 : j < 2 ^ 64) : fdivOk i j = true := by
  have : j.natAbs.log2 < 64 := by
    rw [Nat.log2_lt (by omega)]
    omega
  simp only [fdivOk, Bool.and_eq_true, decide_eq_true_eq]
  omega
/-- a pot after k draws -/
structure Pot (k : Nat) (a b c : Int) : Prop where
  a0 : 0 ≤ a
  b0 : 0 ≤ b
  b1 : b < 2 ^ 61
  c0 : 0 ≤ c
  c1 : c ≤ k
theorem law_take_p {S : Sto} {n k : Nat} {a b c m : Int} (hS : S[n]? = some (.lst [.int a, .int b, .int c])) (hp : Pot k a b c) (hk : k ≤ 1000000) (h0 : 0 < m) (h1 : m < 2 ^ 64) :
    ∃ r a' b' c', F_law_take [.loc n, .int m] S = .ok (.int r) (S.set n (.lst [.int a', .int b', .int c'])) ∧ 0 ≤ r ∧ r < m ∧ Pot (k + 1) a' b' c' := by
  obtain ⟨i0, i1, i2⟩ := ix_loc hS
  have p0 := fun v => (put_loc (v := v) hS).1
  have p2 := fun v => (put_loc (v := v) hS).2
  obtain ⟨a0, b0, b1, c0, c1⟩ := hp
  have hn : n < S.length := (List.getElem?_eq_some_iff.mp hS).1
  by_cases ha : 0 < a
  · refine ⟨a % m, a / m, b, c, ?_, Int.emod_nonneg _ (by omega), Int.emod_lt_of_pos _ h0, ⟨Int.ediv_nonneg a0 (by omega), b0, b1, c0, by omega⟩⟩
    have e0 : endD (s_law_take [some (.loc n), some (.int m), none, none, none] S) = .ok (.int (a % m)) (S.set n (.lst [.int (a / m), .int b, .int c])) := by
      rw [e_law_take]
      simp [eVar, i0, x_tBl, ha, x_modI h0, x_put, x_fdiv (fdiv_small h0 h1), p0]
    exact e0
  · let one := (b + 67867967 * (c + 1)) ^ 3 % 2305843009213693921
    let other := (one + b % 1000033 + 41 * (c + 1)) ^ 5 % 2305843009213693951
    refine ⟨other / 8192 % m, a, b, c + 1, ?_, Int.emod_nonneg _ (by omega), Int.emod_lt_of_pos _ h0, ⟨a0, b0, b1, by omega, by omega⟩⟩
    have S2 : (S.set n (.lst [.int a, .int b, .int (c + 1)]))[n]? = some (.lst [.int a, .int b, .int (c + 1)]) := by simp [hn]
    obtain ⟨j0, j1, j2⟩ := ix_loc S2
    have o1 : 0 ≤ one ∧ one < 2305843009213693921 := ⟨Int.emod_nonneg _ (by omega), Int.emod_lt_of_pos _ (by omega)⟩
    have q1 : powOkW (b + 67867967 * (c + 1)) 3 = true := pow_small (k := 3) (by omega) (by omega)
    have q2 : powOkW (one + b % 1000033 + 41 * (c + 1)) 5 = true := pow_small (k := 5) (by
      have := Int.emod_nonneg b (b := 1000033) (by omega)
      have := Int.emod_lt_of_pos b (b := 1000033) (by omega)
      omega) (by omega)
    have m1 : mulOk 67867967 (c + 1) = true := mul_small (by omega) (by omega)
    have m2 : mulOk 41 (c + 1) = true := mul_small (by omega) (by omega)
    have f1 : fdivOk other 8192 = true := fdiv_small (by omega) (by omega)
    have r1 : (b + 67867967 * (c + 1)) ^ (3 : Int).toNat % 2305843009213693921 = one := rfl
    have r2 : (one + b % 1000033 + 41 * (c + 1)) ^ (5 : Int).toNat % 2305843009213693951 = other := rfl
    have e0 : endD (s_law_take [some (.loc n), some (.int m), none, none, none] S) = .ok (.int (other / 8192 % m)) (S.set n (.lst [.int a, .int b, .int (c + 1)])) := by
      rw [e_law_take]
      simp only [x_seq, x_sif, x_tBl, x_bin, eVar, List.getElem?_cons_zero, List.getElem?_cons_succ, bind_ok, x_c, i0, ofOpt_some, x_gt, then_ok, decide_eq_false ha, Bool.false_eq_true, if_false, x_next, seq_nx, x_put, i2, x_addI, p2, j1, j2, x_mulI m1, x_set, x_pow q1, x_modI (show (0 : Int) < 2305843009213693921 by omega), r1, List.set, x_modI (show (0 : Int) < 1000033 by omega), x_mulI m2, x_pow q2, x_modI (show (0 : Int) < 2305843009213693951 by omega), r2, x_ret, x_fdiv f1, x_modI h0, seq_rt, x_end2]
    exact e0
end EV

namespace EV
open PySem L2
def PotAt (S : Sto) (n k : Nat) : Prop := ∃ a b c : Int, S[n]? = some (.lst [.int a, .int b, .int c]) ∧ Pot k a b c
/-- S after draws: only the pot has changed -/
def Drawn (S : Sto) (n k : Nat) (S' : Sto) : Prop := ∃ a b c : Int, S' = S.set n (.lst [.int a, .int b, .int c]) ∧ Pot k a b c ∧ n < S.length
theorem Drawn.at {S S' : Sto} {n k : Nat} (h : Drawn S n k S') : PotAt S' n k := by
  obtain ⟨a, b, c, rfl, p, hn⟩ := h
  exact ⟨a, b, c, by simp [hn], p⟩
theorem Drawn.trans {S S' S'' : Sto} {n k k' : Nat} (h : Drawn S n k S') (g : Drawn S' n k' S'') : Drawn S n k' S'' := by
  obtain ⟨a, b, c, rfl, p, hn⟩ := h
  obtain ⟨a', b', c', rfl, p', hn'⟩ := g
  exact ⟨a', b', c', by rw [List.set_set], p', hn⟩
theorem PotAt.refl {S : Sto} {n k : Nat} (h : PotAt S n k) : Drawn S n k S := by
  obtain ⟨a, b, c, e, p⟩ := h
  obtain ⟨hn, e2⟩ := List.getElem?_eq_some_iff.mp e
  exact ⟨a, b, c, by rw [← e2]; simp, p, hn⟩
theorem take_d {S : Sto} {n k : Nat} {m : Int} (h : PotAt S n k) (hk : k ≤ 1000000) (h0 : 0 < m) (h1 : m < 2 ^ 64) : ∃ r S', F_law_take [.loc n, .int m] S = .ok (.int r) S' ∧ 0 ≤ r ∧ r < m ∧ Drawn S n (k + 1) S' := by
  obtain ⟨a, b, c, e, p⟩ := h
  obtain ⟨r, a', b', c', q1, q2, q3, q4⟩ := law_take_p e p hk h0 h1
  exact ⟨r, _, q1, q2, q3, a', b', c', rfl, q4, (List.getElem?_eq_some_iff.mp e).1⟩
/-- a comprehension whose parts draw -/
theorem lc_draw {β : Type} {tg : Tgt} {e : FE} {ρ : Env} {n d K : Nat} (emb : β → D) (good : D → Prop) : ∀ (l : List β) (k : Nat) (S : Sto), PotAt S n k → k + d * l.length ≤ K →
    (∀ b ∈ l, ∀ (k' : Nat) (S' : Sto), k' + d ≤ K → PotAt S' n k' → ∃ ρ2 y S'', tg.d (emb b) ρ = some ρ2 ∧ e ρ2 S' = .ok y S'' ∧ good y ∧ Drawn S' n (k' + d) S'') →
    ∃ ys S', lcLoop tg tYesF e ρ (l.map emb) S = .ok ys S' ∧ ys.length = l.length ∧ (∀ y ∈ ys, good y) ∧ Drawn S n (k + d * l.length) S'
  | [], k, S, h, _, _ => ⟨[], S, rfl, rfl, (fun y hy => by cases hy), (by simpa using h.refl)⟩
  | b :: l, k, S, h, hK, hs => by
    simp only [List.length_cons, Nat.mul_succ] at hK
    obtain ⟨ρ2, y, S1, e1, e2, g, dr⟩ := hs b List.mem_cons_self k S (by omega) h
    obtain ⟨ys, S2, q1, q2, q3, q4⟩ := lc_draw emb good l (k + d) S1 dr.at (by omega) fun b hb => hs b (List.mem_cons_of_mem _ hb)
    refine ⟨y :: ys, S2, ?_, by simp [q2], fun z hz => ?_, ?_⟩
    · simp only [List.map_cons, lcLoop, e1, x_yes, noX_ok, bind_ok, if_true, e2, q1]
    · rcases List.mem_cons.mp hz with rfl | hz
      · exact g
      · exact q3 z hz
    · have : k + d * (b :: l).length = k + d + d * l.length := by simp only [List.length_cons, Nat.mul_succ]; omega
      rw [this]
      exact dr.trans q4
theorem modulus_d {S : Sto} {n k : Nat} (h : PotAt S n k) (hk : k ≤ 1000000) : ∃ p S', F_law_modulus [.loc n] S = .ok (.int p) S' ∧ isMod p = true ∧ Drawn S n (k + 1) S' := by
  obtain ⟨r, S', e, r0, r1, dr⟩ := take_d h hk (m := 8) (by omega) (by omega)
  have hr : r = 0 ∨ r = 1 ∨ r = 2 ∨ r = 3 ∨ r = 4 ∨ r = 5 ∨ r = 6 ∨ r = 7 := by omega
  have key : ∃ p, gIx S' (.lst [.int 2, .int 3, .int 5, .int 7, .int 2, .int 3, .int 31, .int 97]) (.int r) = some (.int p) ∧ isMod p = true := by
    rcases hr with rfl | rfl | rfl | rfl | rfl | rfl | rfl | rfl
    · exact ⟨2, rfl, by decide⟩
    · exact ⟨3, rfl, by decide⟩
    · exact ⟨5, rfl, by decide⟩
    · exact ⟨7, rfl, by decide⟩
    · exact ⟨2, rfl, by decide⟩
    · exact ⟨3, rfl, by decide⟩
    · exact ⟨31, rfl, by decide⟩
    · exact ⟨97, rfl, by decide⟩
  obtain ⟨p, e1, hp⟩ := key
  refine ⟨p, S', ?_, hp, dr⟩
  have e0 : endD (s_law_modulus [some (.loc n)] S) = .ok (.int p) S' := by
    rw [e_law_modulus]
    simp [eVar, lt_sz, e, e1]
  exact e0
end EV

namespace EV
open PySem L2
theorem pull {β : Type} {f : β → D} {P : β → Prop} : ∀ (ys : List D), (∀ y ∈ ys, ∃ i, y = f i ∧ P i) → ∃ v : List β, ys = v.map f ∧ ∀ i ∈ v, P i
  | [], _ => ⟨[], rfl, fun i hi => by cases hi⟩
  | y :: ys, h => by
    obtain ⟨i, rfl, hi⟩ := h y List.mem_cons_self
    obtain ⟨v, rfl, hv⟩ := pull ys fun z hz => h z (List.mem_cons_of_mem _ hz)
    exact ⟨i :: v, rfl, fun j hj => by
      rcases List.mem_cons.mp hj with rfl | hj
      · exact hi
      · exact hv j hj⟩
theorem int_bl (S : Sto) (b : Bool) : gInt S [.bl b] = some (.int (if b = true then 1 else 0)) := by cases b <;> rfl
theorem vector_d {S : Sto} {n k sz0 : Nat} {m : Int} (h : PotAt S n k) (hk : k + 1 + 2 * sz0 ≤ 1000000) (h0 : 0 < m) (h1 : m < 2 ^ 60) (hz : sz0 ≤ 1000) :
    ∃ v S', F_law_vector [.loc n, .int m, .int sz0] S = .ok (dV v) S' ∧ v.length = sz0 ∧ v.all (num m) = true ∧ Drawn S n (k + 1 + 2 * sz0) S' := by
  obtain ⟨r, S1, e1, r0, r1, d1⟩ := take_d h (by omega) (m := 3) (by omega) (by omega)
  have hr : (1 : Int) + r > 0 := by omega
  obtain ⟨ys, S2, q1, q2, q3, q4⟩ := lc_draw (tg := .nm 4) (e := eBin gMul (eCall F_law_take (aCons (eVar 0) (aCons (eVar 1) aNil))) (eCallG gInt (aCons (eBin gEQ (eCall F_law_take (aCons (eVar 0) (aCons (eVar 3) aNil))) (eC (.int 0))) aNil)))
    (ρ := [some (.loc n), some (.int m), some (.int (sz0 : Int)), some (.int (1 + r)), none]) (n := n) (d := 2) (K := 1000000) (fun j : Nat => D.int (j : Int)) (fun y => ∃ i, y = .int i ∧ num m i = true) (List.range sz0) (k + 1) S1 d1.at (by rw [List.length_range]; omega) (fun b hb k' S' hk' hp => by
      obtain ⟨x, S3, f1, x0, x1, g1⟩ := take_d hp (by omega) h0 (by omega)
      obtain ⟨y, S4, f2, y0, y1, g2⟩ := take_d g1.at (by omega) hr (by omega)
      refine ⟨_, .int (x * (if decide (y = 0) = true then 1 else 0)), S4, rfl, ?_, ⟨_, rfl, ?_⟩, g1.trans g2⟩
      · have ml : mulOk x (if decide (y = 0) = true then 1 else 0) = true := mul_small (by omega) (by omega)
        simp only [x_bin, x_call, x_ac, x_an, eVar, List.set, List.getElem?_cons_zero, List.getElem?_cons_succ, bind_ok, f1, x_callG, f2, x_c, eqI, ofOpt_some, id, int_bl, x_mulI ml]
      · by_cases hy : y = 0
        · simp [hy, num, x0, x1]
        · simp [hy, num, h0])
  rw [List.length_range] at q2 q4
  obtain ⟨v, rfl, hv⟩ := pull ys q3
  refine ⟨v, S2, ?_, by simpa using q2, List.all_eq_true.mpr hv, d1.trans q4⟩
  have er : iRange1 (eVar 2) [some (.loc n), some (.int m), some (.int (sz0 : Int)), some (.int (1 + r)), none] S1 = .ok ((List.range sz0).map fun j : Nat => D.int (j : Int)) S1 := x_range rfl (b62_n (by omega))
  have e0 : endD (s_law_vector [some (.loc n), some (.int m), some (.int (sz0 : Int)), none, none] S) = .ok (dV v) S2 := by
    rw [e_law_vector]
    simp [eVar, e1, er, wipeD, lt_sz (n := sz0) (by omega), q1, dV]
  exact e0
theorem matrix_d {S : Sto} {n k w many : Nat} {m : Int} (h : PotAt S n k) (hk : k + (1 + 2 * w) * many ≤ 1000000) (h0 : 0 < m) (h1 : m < 2 ^ 60) (hz : w ≤ 1000) (hz2 : many ≤ 1000) :
    ∃ a S', F_law_matrix [.loc n, .int m, .int w, .int many] S = .ok (dM a) S' ∧ a.length = many ∧ (∀ v ∈ a, v.length = w ∧ v.all (num m) = true) ∧ Drawn S n (k + (1 + 2 * w) * many) S' := by
  obtain ⟨ys, S2, q1, q2, q3, q4⟩ := lc_draw (tg := .nm 4) (e := eCall F_law_vector (aCons (eVar 0) (aCons (eVar 1) (aCons (eVar 2) aNil)))) (ρ := [some (.loc n), some (.int m), some (.int (w : Int)), some (.int (many : Int)), none]) (n := n) (d := 1 + 2 * w) (K := 1000000) (fun j : Nat => D.int (j : Int)) (fun y => ∃ v, y = dV v ∧ (v.length = w ∧ v.all (num m) = true)) (List.range many) k S h (by rw [List.length_range]; exact hk) (fun b hb k' S' hk' hp => by
      obtain ⟨v, S3, f1, f2, f3, g1⟩ := vector_d hp (by omega) h0 h1 hz
      refine ⟨_, dV v, S3, rfl, ?_, ⟨v, rfl, f2, f3⟩, by rw [← Nat.add_assoc]; exact g1⟩
      simp only [x_call, x_ac, x_an, eVar, List.set, List.getElem?_cons_zero, List.getElem?_cons_succ, bind_ok, f1])
  rw [List.length_range] at q2 q4
  obtain ⟨a, rfl, ha⟩ := pull ys q3
  refine ⟨a, S2, ?_, by simpa using q2, ha, q4⟩
  have er : iRange1 (eVar 3) [some (.loc n), some (.int m), some (.int (w : Int)), some (.int (many : Int)), none] S = .ok ((List.range many).map fun j : Nat => D.int (j : Int)) S := x_range rfl (b62_n (by omega))
  have e0 : endD (s_law_matrix [some (.loc n), some (.int m), some (.int (w : Int)), some (.int (many : Int)), none] S) = .ok (dM a) S2 := by
    rw [e_law_matrix]
    simp [eVar, er, wipeD, lt_sz (n := many) (by omega), q1, dM]
  exact e0
end EV

namespace EV
open PySem L2
/-! ### sums of multiples, as the law works them out -/
def stepc (p : Int) (acc : List Int) (f : Int) (row : List Int) : List Int := (acc.zip row).map fun q => (q.1 + f * q.2) % p
def lcomb (p : Int) (w : Nat) (f : List Int) (m : List (List Int)) : List Int := (f.zip m).foldl (fun acc q => stepc p acc q.1 q.2) (List.replicate w 0)
theorem range_eq {v : List Int} {w : Nat} (h : v.length = w) : v = (List.range w).map fun j => v.getD j 0 := by
  subst h
  apply List.ext_getElem
  · simp
  · intro i h1 h2
    simp [h1]
theorem stepc_range (p : Int) (w : Nat) (g : Nat → Int) (f : Int) (row : List Int) (h : row.length = w) : stepc p ((List.range w).map g) f row = (List.range w).map fun j => (g j + f * row.getD j 0) % p := by
  have e := range_eq h
  unfold stepc
  conv => lhs; rw [e]
  rw [List.zip_map', List.map_map]
  rfl
theorem fold_range (p : Int) (w : Nat) : ∀ (l : List (Int × List Int)) (g : Nat → Int), (∀ q ∈ l, q.2.length = w) →
    l.foldl (fun acc q => stepc p acc q.1 q.2) ((List.range w).map fun j => g j % p) = (List.range w).map fun j => (g j + (l.map fun q => q.1 * q.2.getD j 0).sum) % p
  | [], g, _ => by simp
  | q :: l, g, h => by
    rw [List.foldl_cons, stepc_range p w _ _ _ (h q List.mem_cons_self)]
    have e : ((List.range w).map fun j => (g j % p + q.1 * q.2.getD j 0) % p) = (List.range w).map fun j => (g j + q.1 * q.2.getD j 0) % p := List.map_congr_left fun j _ => Int.emod_add_emod ..
    rw [e, fold_range p w l (fun j => g j + q.1 * q.2.getD j 0) fun x hx => h x (List.mem_cons_of_mem _ hx)]
    refine List.map_congr_left fun j _ => ?_
    simp only [List.map_cons, List.sum_cons]
    rw [Int.add_assoc]
theorem lcomb_eq {p : Int} {w : Nat} {f : List Int} {m : List (List Int)} (h : ∀ v ∈ m, v.length = w) : lcomb p w f m = (cols w m).map fun c => dotp p f c := by
  have e0 : List.replicate w (0 : Int) = (List.range w).map fun j => (fun _ => 0 : Nat → Int) j % p := by
    apply List.ext_getElem
    · simp
    · intro i h1 h2
      simp
  unfold lcomb
  rw [e0, fold_range p w _ _ fun q hq => h q.2 (List.of_mem_zip hq).2]
  unfold cols dotp
  rw [List.map_map]
  refine List.map_congr_left fun j _ => ?_
  simp only [Function.comp_def, List.zip_map_right, List.map_map, Int.zero_add]
  rfl
theorem zip_fm : ∀ (f : List Int) (m : List (List Int)), zipD (f.map D.int) (m.map dV) = (f.zip m).map fun q => D.tup [.int q.1, dV q.2]
  | [], m => by simp [zipD]
  | x :: f, [] => by simp [zipD]
  | x :: f, y :: m => by simp [zipD, zip_fm f m]
theorem if_some {α : Type} {c : Bool} {x : α} (h : c = true) : (if c = true then some x else none) = some x := by rw [h]; rfl
theorem repL_eq {S : Sto} {ds : List D} {k : Int} : gRepL S (.lst ds) (.int k) = if (decide (-(2 ^ 63) ≤ k) && decide (k < 2 ^ 63) && sz (ds.length * k.toNat)) = true then some (.lst (List.replicate k.toNat ds).flatten) else none := rfl
theorem cond63 {k : Int} {n : Nat} (h0 : 0 ≤ k) (h1 : k < 2 ^ 60) (hn : n * k.toNat ≤ 16777216) : (decide (-(2 ^ 63) ≤ k) && decide (k < 2 ^ 63) && sz (n * k.toNat)) = true := by
  rw [decide_eq_true (show -(2 ^ 63) ≤ k by omega), decide_eq_true (show k < 2 ^ 63 by omega), lt_sz hn]
  rfl
theorem repL_x {S : Sto} {ds : List D} {k : Int} (h0 : 0 ≤ k) (h1 : k < 2 ^ 60) (hn : ds.length * k.toNat ≤ 16777216) : gRepL S (.lst ds) (.int k) = some (.lst (List.replicate k.toNat ds).flatten) := by
  rw [repL_eq, if_some (cond63 h0 h1 hn)]
theorem mul_lst {S : Sto} {ds : List D} {k : Int} : gMul S (.lst ds) (.int k) = match gRepL S (.lst ds) (.int k) with | some z => some z | none => gRepA S (.lst ds) (.int k) := rfl
theorem rep_zero {w : Nat} (hw : w ≤ 1000) (S : Sto) : gMul S (.lst [.int 0]) (.int (w : Int)) = some (.lst ((List.replicate w (0 : Int)).map .int)) := by
  have e : (List.replicate w [D.int 0]).flatten = (List.replicate w (0 : Int)).map D.int := by
    rw [List.flatten_replicate_singleton, List.map_replicate]
  have h := repL_x (S := S) (ds := [D.int 0]) (k := (w : Int)) (by omega) (by omega) (by rw [Int.toNat_natCast, List.length_singleton]; omega)
  rw [Int.toNat_natCast, e] at h
  rw [mul_lst, h]
theorem len_stepc {p : Int} {w : Nat} {acc row : List Int} {f : Int} (h : acc.length = w) (g : row.length = w) : (stepc p acc f row).length = w := by simp [stepc, h, g]
theorem comb_loop {p : Int} {w : Nat} (hp : 0 < p) (hw : w ≤ 1000) (m0 f0 wd : Option D) (S : Sto) : ∀ (l : List (Int × List Int)) (acc : List Int) (r5 r6 : Option D), acc.length = w → (∀ q ∈ l, q.2.length = w ∧ -(2 ^ 64) < q.1 ∧ q.1 < 2 ^ 64) →
    ∃ r5' r6', forLoop (.tp [5, 6]) (sSeq (sSet 4 (eLc (iZip (eVar 4) (eVar 6)) (.tp [7, 8]) tYesF (eBin gModI (eBin gAdd (eVar 7) (eBin gMul (eVar 5) (eVar 8))) (eVar 0)) [7, 8])) sNext) (l.map fun q => D.tup [.int q.1, dV q.2])
      [some (.int p), wd, m0, f0, some (.lst (acc.map .int)), r5, r6, none, none] S = .nx [some (.int p), wd, m0, f0, some (.lst ((l.foldl (fun a q => stepc p a q.1 q.2) acc).map .int)), r5', r6', none, none] S
  | [], acc, r5, r6, _, _ => ⟨r5, r6, rfl⟩
  | q :: l, acc, r5, r6, ha, h => by
    obtain ⟨h1, h2, h3⟩ := h q List.mem_cons_self
    obtain ⟨s5, s6, e⟩ := comb_loop hp hw m0 f0 wd S l (stepc p acc q.1 q.2) (some (.int q.1)) (some (dV q.2)) (len_stepc ha h1) fun x hx => h x (List.mem_cons_of_mem _ hx)
    refine ⟨s5, s6, ?_⟩
    have inner := lc_map (tg := .tp [7, 8]) (a := eBin gModI (eBin gAdd (eVar 7) (eBin gMul (eVar 5) (eVar 8))) (eVar 0)) (ρ := [some (.int p), wd, m0, f0, some (.lst (acc.map .int)), some (.int q.1), some (.tup (q.2.map .int)), none, none]) (S := S) (fun z : Int × Int => D.tup [.int z.1, .int z.2]) (fun z => .int ((z.1 + q.1 * z.2) % p)) (acc.zip q.2) (fun z hz => ⟨_, rfl, by
      simp [setD, eVar, x_mulI (mul_small h2 h3), x_modI hp]⟩)
    have ln : (acc.zip q.2).length ≤ 16777216 := by rw [List.length_zip]; omega
    simp only [List.length_zip] at ln
    have st : (acc.zip q.2).map (fun z => D.int ((z.1 + q.1 * z.2) % p)) = (stepc p acc q.1 q.2).map .int := by unfold stepc; rw [List.map_map]; rfl
    have one : (sSeq (sSet 4 (eLc (iZip (eVar 4) (eVar 6)) (.tp [7, 8]) tYesF (eBin gModI (eBin gAdd (eVar 7) (eBin gMul (eVar 5) (eVar 8))) (eVar 0)) [7, 8])) sNext) [some (.int p), wd, m0, f0, some (.lst (acc.map .int)), some (.int q.1), some (.tup (q.2.map .int)), none, none] S =
        .nx [some (.int p), wd, m0, f0, some (.lst ((stepc p acc q.1 q.2).map .int)), some (.int q.1), some (.tup (q.2.map .int)), none, none] S := by
      simp [iZip, kdD, eVar, zip_v, wipeD, lt_sz ln, inner, st]
    rw [List.map_cons]
    unfold forLoop
    have tg : (Tgt.tp [5, 6]).d (D.tup [.int q.1, dV q.2]) [some (.int p), wd, m0, f0, some (.lst (acc.map .int)), r5, r6, none, none] = some [some (.int p), wd, m0, f0, some (.lst (acc.map .int)), some (.int q.1), some (.tup (q.2.map .int)), none, none] := rfl
    rw [tg]
    simp only
    rw [one]
    exact e
theorem law_combined_m {p : Int} {w : Nat} {m : List (List Int)} {f : List Int} (hp : 0 < p) (hw : w ≤ 1000) (hm : ∀ v ∈ m, v.length = w) (hf : small f) (S : Sto) :
    F_law_combined [.int p, .int w, dM m, dV f] S = .ok (dV ((cols w m).map fun c => dotp p f c)) S := by
  obtain ⟨r5, r6, e⟩ := comb_loop (p := p) (w := w) hp hw (some (dM m)) (some (dV f)) (some (.int w)) S (f.zip m) (List.replicate w 0) none none (by simp) fun q hq => ⟨hm q.2 (List.of_mem_zip hq).2, hf q.1 (List.of_mem_zip hq).1⟩
  rw [← lcomb_eq (p := p) (f := f) hm]
  have k1 : kdD (dV f) = some (.t, f.map D.int) := rfl
  have k2 : kdD (dM m) = some (.t, m.map dV) := rfl
  have e0 : endD (s_law_combined [some (.int p), some (.int w), some (dM m), some (dV f), none, none, none, none, none] S) = .ok (dV (lcomb p w f m)) S := by
    rw [e_law_combined]
    simp [-List.map_replicate, eVar, lt_sz, rep_zero hw, iZip, k1, k2, zip_fm, e]
    rfl
  exact e0
end EV

namespace EV
open PySem L2
theorem x_abs (S : Sto) (i : Int) : gAbs S [.int i] = some (.int (i.natAbs : Int)) := by
  have e : (if i < 0 then -i else i) = (i.natAbs : Int) := by split <;> omega
  exact congrArg (fun z => some (D.int z)) e
theorem len_frz (S : Sto) (ds : List D) : gLen S [.frz ds] = some (.int ds.length) := rfl
theorem ix_frz {S : Sto} {ns : List Int} {j : Nat} (h : j < ns.length) : gIx S (.frz (ns.map .int)) (.int (j : Int)) = some (.int (ns.getD j 0)) := by
  have h1 : ¬ ((j : Int) < 0) := by omega
  have h2 : (j : Int) < ns.length := by omega
  simp [gIx, itemsS, itemsT, itemsR, L2.atI, ixN, h1, h2, h]
def big14 : Int := (10 ^ 60) ^ 14
theorem pow60 : powOkW 10 60 = true := by decide +kernel
theorem pow14 : powOkW (10 ^ 60) 14 = true := by decide +kernel
theorem pow18 : powOkW 10 18 = true := by decide +kernel
/-- the cell of which a pot is made -/
def cellOf (ns : List Int) (k : Nat) : Int := if k < ns.length then (((ns.getD k 0).natAbs : Int) % big14) * 2 + (if decide (ns.getD k 0 < 0) = true then 1 else 0) else 6 * k + 1
def potA (c : Int) : Int := c / 10 ^ 18 * (if decide (10 ^ 18 ≤ c) = true then 1 else 0)
def potB (c : Int) (k : Nat) : Int := (c % 2305843009213693967 + 130363 * k + 29) ^ 3 % 2305843009213693951
theorem pot_tail {ns : List Int} {k : Nat} (hk : k ≤ 1000) (c : Int) (S : Sto) (r3 : Option D) :
    endD ((sSeq (sSet 3 (eBin gModI (eBin gPowW (eBin gAdd (eBin gAdd (eBin gModI (eVar 2) (eC (.int 2305843009213693967))) (eBin gMul (eC (.int 130363)) (eVar 1))) (eC (.int 29))) (eC (.int 3))) (eC (.int 2305843009213693951)))) (sSeq (sRet (eLoc (aCons (eBin gMul (eBin gFDivI (eVar 2) (eBin gPowW (eC (.int 10)) (eC (.int 18)))) (eCallG gInt (aCons (eBin gGe (eVar 2) (eBin gPowW (eC (.int 10)) (eC (.int 18)))) aNil))) (aCons (eVar 3) (aCons (eC (.int 0)) aNil))))) sNext)) [some (.frz (ns.map .int)), some (.int (k : Int)), some (.int c), r3] S)
      = .ok (.loc S.length) (S ++ [.lst [.int (potA c), .int (potB c k), .int 0]]) := by
  have m1 : mulOk 130363 (k : Int) = true := mul_small (by omega) (by omega)
  have b1 := Int.emod_nonneg c (b := 2305843009213693967) (by omega)
  have b2 := Int.emod_lt_of_pos c (b := 2305843009213693967) (by omega)
  have p1 : powOkW (c % 2305843009213693967 + 130363 * (k : Int) + 29) 3 = true := pow_small (k := 3) (by omega) (by omega)
  have d1 : fdivOk c (10 ^ (18 : Int).toNat) = true := fdiv_small (by decide) (by decide)
  have m2 : ∀ x y : Int, (y = 0 ∨ y = 1) → mulOk x y = true := fun x y h => by
    unfold mulOk
    have : big64 y = true := by rcases h with rfl | rfl <;> decide
    rw [this]
    simp
  have m3 : mulOk (c / 10 ^ (18 : Int).toNat) (if decide (10 ^ (18 : Int).toNat ≤ c) = true then 1 else 0) = true := m2 _ _ (by split <;> simp)
  simp only [x_seq, x_set, x_bin, eVar, List.getElem?_cons_zero, List.getElem?_cons_succ, bind_ok, x_c, x_modI (show (0 : Int) < 2305843009213693967 by omega), ofOpt_some, x_mulI m1, x_addI, x_pow p1, x_modI (show (0 : Int) < 2305843009213693951 by omega), then_ok, seq_nx, List.set, x_ret, x_loc, x_ac, x_an, x_pow pow18, x_fdiv d1, x_callG, x_ge, int_bl, x_mulI m3]
  rw [if_pos (lt_sz (show [D.int (c / 10 ^ (18 : Int).toNat * if decide (10 ^ (18 : Int).toNat ≤ c) = true then 1 else 0), D.int ((c % 2305843009213693967 + 130363 * (k : Int) + 29) ^ (3 : Int).toNat % 2305843009213693951), D.int 0].length ≤ 16777216 by simp))]
  simp only [then_ok, seq_rt, x_end2]
  rfl
theorem potOk {ns : List Int} {k : Nat} (c : Int) (h : 0 ≤ c) : Pot 0 (potA c) (potB c k) 0 := by
  refine ⟨?_, Int.emod_nonneg _ (by omega), ?_, by omega, by omega⟩
  · unfold potA
    have : 0 ≤ c / 10 ^ 18 := Int.ediv_nonneg h (by decide)
    split <;> omega
  · have := Int.emod_lt_of_pos ((c % 2305843009213693967 + 130363 * (k : Int) + 29) ^ 3) (b := 2305843009213693951) (by omega)
    unfold potB
    omega
theorem big_pos : 0 < big14 := by decide +kernel
theorem cell_pos (ns : List Int) (k : Nat) : 0 ≤ cellOf ns k := by
  unfold cellOf
  split
  · have := Int.emod_nonneg ((ns.getD k 0).natAbs : Int) (b := big14) (Int.ne_of_gt big_pos)
    split <;> omega
  · omega
theorem law_pot_p {ns : List Int} {k : Nat} (hk : k ≤ 1000) (S : Sto) : F_law_pot [.frz (ns.map .int), .int k] S = .ok (.loc S.length) (S ++ [.lst [.int (potA (cellOf ns k)), .int (potB (cellOf ns k) k), .int 0]]) := by
  have m6 : mulOk 6 (k : Int) = true := mul_small (by omega) (by omega)
  have m2 : ∀ x : Int, mulOk x 2 = true := fun x => by
    unfold mulOk
    have : big64 2 = true := by decide
    rw [this]
    simp
  have e0 : endD (s_law_pot [some (.frz (ns.map .int)), some (.int (k : Int)), none, none] S) = .ok (.loc S.length) (S ++ [.lst [.int (potA (cellOf ns k)), .int (potB (cellOf ns k) k), .int 0]]) := by
    rw [e_law_pot]
    by_cases h : k < ns.length
    · have h2 : decide ((k : Int) < ((ns.map D.int).length : Int)) = true := decide_eq_true (by simp; omega)
      have ec : cellOf ns k = (((ns.getD k 0).natAbs : Int) % big14) * 2 + (if decide (ns.getD k 0 < 0) = true then 1 else 0) := by unfold cellOf; rw [if_pos h]
      have eb : ((10 : Int) ^ (60 : Int).toNat) ^ (14 : Int).toNat = big14 := rfl
      have pw : powOkW ((10 : Int) ^ (60 : Int).toNat) 14 = true := pow14
      rw [x_seq, x_set]
      simp only [x_bin, eVar, List.getElem?_cons_zero, List.getElem?_cons_succ, bind_ok, x_c, x_mulI m6, ofOpt_some, x_addI, then_ok, seq_nx, List.set]
      rw [x_seq, x_sif]
      simp only [x_tBl, x_bin, eVar, List.getElem?_cons_zero, List.getElem?_cons_succ, bind_ok, x_callG, x_ac, x_an, len_frz, ofOpt_some, x_lt, h2, then_ok, if_true]
      rw [x_seq, x_set]
      simp only [x_bin, x_callG, x_ac, x_an, eVar, List.getElem?_cons_zero, List.getElem?_cons_succ, bind_ok, ix_frz h, ofOpt_some, x_abs, x_c, x_pow pow60, x_pow pw, eb, x_modI big_pos, x_mulI (m2 _), x_lt, int_bl, x_addI, then_ok, seq_nx, x_next, List.set]
      rw [← ec]
      exact pot_tail hk _ S none
    · have h2 : decide ((k : Int) < ((ns.map D.int).length : Int)) = false := decide_eq_false (by simp; omega)
      have ec : cellOf ns k = 6 * k + 1 := by unfold cellOf; rw [if_neg h]
      rw [x_seq, x_set]
      simp only [x_bin, eVar, List.getElem?_cons_zero, List.getElem?_cons_succ, bind_ok, x_c, x_mulI m6, ofOpt_some, x_addI, then_ok, seq_nx, List.set]
      rw [x_seq, x_sif]
      simp only [x_tBl, x_bin, eVar, List.getElem?_cons_zero, List.getElem?_cons_succ, bind_ok, x_callG, x_ac, x_an, len_frz, ofOpt_some, x_lt, h2, then_ok, Bool.false_eq_true, if_false, x_next, seq_nx]
      rw [ec]
      exact pot_tail hk _ S none
  exact e0
end EV

namespace EV
open PySem L2
/-! ### texts of small data, and == of data that are the same -/
def PV (v : List Int) : PyData := .tuple (v.map .int)
def PM (m : List (List Int)) : PyData := .tuple (m.map PV)
structure Sm (S : Sto) (d : D) (p : PyData) (n w : Nat) : Prop where
  hp : toP S d = some p
  hs : p.showable = true
  hc : p.canLay0 = true
  hd : p.depth ≤ n
  hl : p.leavesShort 8 = true
  hw : p.weight ≤ w
structure Sms (S : Sto) (ds : List D) (ps : List PyData) (n w : Nat) : Prop where
  hp : toPs S ds = some ps
  hs : PyData.showableAll ps = true
  hc : PyData.canLayAll0 ps = true
  hd : PyData.depthAll ps ≤ n
  hl : PyData.leavesShortAll 8 ps = true
  hw : PyData.weightAll ps ≤ w
section
variable {S : Sto} {d : D} {ds : List D} {p : PyData} {ps : List PyData} {n w w' : Nat} {i : Int}
theorem Sms.nil : Sms S [] [] n w := ⟨rfl, by simp [PyData.showableAll], by simp [PyData.canLayAll0], by simp [PyData.depthAll], by simp [PyData.leavesShortAll], by simp [PyData.weightAll]⟩
theorem Sms.cons (a : Sm S d p n w) (b : Sms S ds ps n w') : Sms S (d :: ds) (p :: ps) n (w + 1 + w') :=
  ⟨by simp only [toPs, a.hp, b.hp], by simp only [PyData.showableAll, a.hs, b.hs, Bool.and_self], by simp only [PyData.canLayAll0, a.hc, b.hc, Bool.and_self], by simp only [PyData.depthAll]; have := a.hd; have := b.hd; omega,
    by simp only [PyData.leavesShortAll, a.hl, b.hl, Bool.and_self], by simp only [PyData.weightAll]; have := a.hw; have := b.hw; omega⟩
theorem Sms.tup (a : Sms S ds ps n w) : Sm S (.tup ds) (.tuple ps) (n + 1) w :=
  ⟨by simp only [toP, a.hp, Option.map_some], by simp only [PyData.showable, a.hs], by simp only [PyData.canLay0, a.hc], by simp only [PyData.depth]; have := a.hd; omega, by simp only [PyData.leavesShort, a.hl], by simp only [PyData.weight]; exact a.hw⟩
theorem Sms.lst (a : Sms S ds ps n w) : Sm S (.lst ds) (.list ps) (n + 1) w :=
  ⟨by simp only [toP, a.hp, Option.map_some], by simp only [PyData.showable, a.hs], by simp only [PyData.canLay0, a.hc], by simp only [PyData.depth]; have := a.hd; omega, by simp only [PyData.leavesShort, a.hl], by simp only [PyData.weight]; exact a.hw⟩
theorem Sm.int (h : i.natAbs < 1000000) : Sm S (.int i) (.int i) n 24 := by
  have l2 : i.natAbs.log2 < 24 := by
    by_cases z : i.natAbs = 0
    · rw [z]; decide
    · rw [Nat.log2_lt z]; omega
  refine ⟨rfl, by simp only [PyData.showable, decide_eq_true_eq]; omega, by simp [PyData.canLay0], by simp [PyData.depth], ?_, ?_⟩
  · have h1 := int_text_length_le10 (a := i) (k := 7) (by omega) (by omega)
    have h2 : (PyData.shown (.int i)).length = (toString i).length := ofString_length _
    have h3 : (PyData.shown (.int i)).length ≤ 8 := by omega
    simp only [PyData.leavesShort, h3, decide_true]
  · simp only [PyData.weight]
    split <;> omega
theorem Sm.up (a : Sm S d p n w) (h : w ≤ w') : Sm S d p n w' := ⟨a.hp, a.hs, a.hc, a.hd, a.hl, by have := a.hw; omega⟩
theorem Sm.deep {n' : Nat} (a : Sm S d p n w) (h : n ≤ n') : Sm S d p n' w := ⟨a.hp, a.hs, a.hc, by have := a.hd; omega, a.hl, a.hw⟩
theorem Sms.map {β : Type} {f : β → D} {g : β → PyData} : ∀ (l : List β), (∀ b ∈ l, Sm S (f b) (g b) n w) → Sms S (l.map f) (l.map g) n ((w + 1) * l.length)
  | [], _ => Sms.nil
  | b :: l, h => by
    have a := Sms.cons (h b List.mem_cons_self) (Sms.map l fun x hx => h x (List.mem_cons_of_mem _ hx))
    have e : (w + 1) * (b :: l).length = w + 1 + (w + 1) * l.length := by rw [List.length_cons, Nat.mul_succ]; omega
    rw [e]
    exact a
def smallV (v : List Int) : Prop := v.length ≤ 1000 ∧ ∀ x ∈ v, x.natAbs < 1000000
theorem sm_dV {v : List Int} (h : smallV v) : Sm S (dV v) (PV v) 1 25000 :=
  (Sms.tup (Sms.map v fun x hx => Sm.int (n := 0) (h.2 x hx))).up (by have := h.1; omega)
theorem sm_dM {m : List (List Int)} (hl : m.length ≤ 10) (h : ∀ v ∈ m, smallV v) : Sm S (dM m) (PM m) 2 250010 :=
  (Sms.tup (Sms.map m fun v hv => sm_dV (h v hv))).up (by omega)
theorem toPL_of (a : Sm S d p n w) : toPL S d = some p := by
  have e := a.hp
  cases d <;> first | exact e | (simp [toP] at e)
theorem sh_eq : (PyData.shown p).length ≤ (8 + 2) * w + 8 → w ≤ 1000000 → sz (PyData.shown p).length = true := fun h g => lt_sz (by omega)
theorem repr_sm (a : Sm S d p n w) (hb : box p = true) (hn : n ≤ 100) (hw : w ≤ 1000000) : gRepr S [d] = some (.str p.shown) := by
  have e := toPL_of a
  have sh : sz p.shown.length = true := by
    have h1 := PyData.shown_le 8 (by omega) p a.hl
    have h2 := a.hw
    exact lt_sz (by omega)
  have hd : p.hasDict = false := PyData.hasDict_of_canLay p a.hc
  have dd : decide (p.depth ≤ 100) = true := decide_eq_true (by have := a.hd; omega)
  simp only [gRepr, e, Option.bind_some]
  cases p with
  | list xs => simp only [reprD, hb, a.hs, hd, dd, sh, Bool.not_false, Bool.and_self, if_true, Option.map_some]
  | tuple xs => simp only [reprD, hb, a.hs, hd, dd, sh, Bool.not_false, Bool.and_self, if_true, Option.map_some]
  | _ => simp [box] at hb
theorem ne_sm (a : Sm S d p n w) (hn : n ≤ 64) : gEq not S d d = some (.bl false) := by
  have e := toPL_of a
  have sh : SeqAt.shaped p = true := by
    simp only [SeqAt.shaped, a.hc, Bool.true_and, decide_eq_true_eq]
    have := a.hd
    omega
  simp only [gEq, e, sh, Bool.and_self, if_true, SeqAt.eqv_refl p a.hc]
  rfl
end
end EV

namespace EV
open PySem L2
/-! ### sums of products, without reducing -/
def rs (x y : List Int) : Int := ((x.zip y).map fun q => q.1 * q.2).sum
theorem rs_nil (y : List Int) : rs [] y = 0 := by simp [rs]
theorem rs_nil2 (x : List Int) : rs x [] = 0 := by simp [rs]
theorem rs_cons (a b : Int) (x y : List Int) : rs (a :: x) (b :: y) = a * b + rs x y := by simp [rs]
theorem dotp_rs (p : Int) (x y : List Int) : dotp p x y = rs x y % p := rfl
theorem rs_comm : ∀ x y : List Int, rs x y = rs y x
  | [], y => by rw [rs_nil, rs_nil2]
  | a :: x, [] => by rw [rs_nil, rs_nil2]
  | a :: x, b :: y => by rw [rs_cons, rs_cons, rs_comm x y, Int.mul_comm]
theorem dotp_comm (p : Int) (x y : List Int) : dotp p x y = dotp p y x := by rw [dotp_rs, dotp_rs, rs_comm]
theorem rs_zero {β : Type} : ∀ (l : List β) (y : List Int), rs (l.map fun _ => 0) y = 0
  | [], y => rs_nil y
  | b :: l, [] => rs_nil2 _
  | b :: l, z :: y => by rw [List.map_cons, rs_cons, rs_zero l y]; simp
theorem mod_step (p a b s t : Int) (h : s % p = t % p) : (a * b + s) % p = (a * b + t) % p := by rw [Int.add_emod, h, ← Int.add_emod]
theorem rs_modL (p : Int) : ∀ x y : List Int, rs (x.map (· % p)) y % p = rs x y % p
  | [], y => rfl
  | a :: x, [] => rfl
  | a :: x, b :: y => by
    rw [List.map_cons, rs_cons, rs_cons, mod_step _ _ _ _ _ (rs_modL p x y), Int.add_emod, Int.mul_emod, Int.emod_emod, ← Int.mul_emod, ← Int.add_emod]
theorem rs_modR (p : Int) (x y : List Int) : rs x (y.map (· % p)) % p = rs x y % p := by rw [rs_comm, rs_modL, rs_comm]
theorem rs_lin {β : Type} (k : Int) (f g : β → Int) : ∀ (l : List β) (y : List Int), rs (l.map fun j => k * f j + g j) y = k * rs (l.map f) y + rs (l.map g) y
  | [], y => by simp [rs_nil]
  | b :: l, [] => by simp [rs_nil2]
  | b :: l, z :: y => by
    rw [List.map_cons, List.map_cons, List.map_cons, rs_cons, rs_cons, rs_cons, rs_lin k f g l y, Int.add_mul, Int.mul_add, Int.mul_assoc]
    omega
theorem rs_cols {r : Nat} {y : List Int} : ∀ (b : List (List Int)) (x : List Int), (∀ v ∈ b, v.length = r) → rs ((cols r b).map (rs x)) y = rs x (b.map fun v => rs v y)
  | [], x, _ => by
    have e : (cols r []).map (rs x) = (List.range r).map fun _ => 0 := by
      unfold cols
      rw [List.map_map]
      exact List.map_congr_left fun j _ => rs_nil2 x
    rw [e, rs_zero, List.map_nil, rs_nil2]
  | v :: b, [], _ => by
    have e : (cols r (v :: b)).map (rs []) = (List.range r).map fun _ => 0 := by
      unfold cols
      rw [List.map_map]
      exact List.map_congr_left fun j _ => rs_nil _
    rw [e, rs_zero, rs_nil]
  | v :: b, k :: x, h => by
    have ih := rs_cols (y := y) b x fun u hu => h u (List.mem_cons_of_mem _ hu)
    have e : (cols r (v :: b)).map (rs (k :: x)) = (List.range r).map fun j => k * v.getD j 0 + rs x (b.map fun u => u.getD j 0) := by
      unfold cols
      rw [List.map_map]
      exact List.map_congr_left fun j _ => rs_cons k _ x _
    have e2 : (List.range r).map (fun j => rs x (b.map fun u => u.getD j 0)) = (cols r b).map (rs x) := by
      unfold cols
      rw [List.map_map]
      rfl
    rw [e, rs_lin, ← range_eq (h v List.mem_cons_self), e2, ih, List.map_cons, rs_cons]
/-! ### matrices -/
theorem cols_cols {w n : Nat} {m : List (List Int)} (hn : m.length = n) (h : ∀ v ∈ m, v.length = w) : cols n (cols w m) = m := by
  subst hn
  apply List.ext_getElem
  · simp [cols]
  · intro i h1 h2
    have hv := h m[i] (List.getElem_mem h2)
    have e := range_eq hv
    conv => rhs; rw [e]
    simp [cols, h2]
theorem dotp_cols {p : Int} {r : Nat} {b : List (List Int)} {x y : List Int} (h : ∀ v ∈ b, v.length = r) : dotp p ((cols r b).map fun c => dotp p x c) y = dotp p x (b.map fun v => dotp p v y) := by
  have e1 : ((cols r b).map fun c => dotp p x c) = ((cols r b).map (rs x)).map (· % p) := by rw [List.map_map]; rfl
  have e2 : (b.map fun v => dotp p v y) = (b.map fun v => rs v y).map (· % p) := by rw [List.map_map]; rfl
  rw [e1, e2, dotp_rs, dotp_rs, rs_modL, rs_modR, rs_cols b x h]
theorem cols_prod {p : Int} {w : Nat} (a b : List (List Int)) : cols w (prod p w a b) = (cols w b).map fun c => a.map fun r => dotp p r c := by
  apply List.ext_getElem
  · simp [cols]
  · intro i h1 h2
    have hi : i < w := by simpa [cols] using h1
    simp [cols, prod, hi]
theorem prod_assoc {p : Int} {r w : Nat} {a b c : List (List Int)} (h : ∀ v ∈ b, v.length = r) : prod p w (prod p r a b) c = prod p w a (prod p w b c) := by
  show (prod p r a b).map (fun x => (cols w c).map fun y => dotp p x y) = a.map fun x => (cols w (prod p w b c)).map fun y => dotp p x y
  rw [cols_prod]
  unfold prod
  rw [List.map_map]
  refine List.map_congr_left fun x _ => ?_
  rw [List.map_map]
  exact List.map_congr_left fun y _ => dotp_cols h
theorem prod_flip {p : Int} {l n r : Nat} {a b : List (List Int)} (hn : a.length = n) (h : ∀ v ∈ a, v.length = l) : cols r (prod p r a b) = prod p n (cols r b) (cols l a) := by
  rw [cols_prod]
  unfold prod
  rw [cols_cols hn h]
  exact List.map_congr_left fun c _ => List.map_congr_left fun x _ => dotp_comm p x c
/-! ### sums of vectors -/
theorem rs_ones : ∀ (c : List Int), rs (List.replicate c.length 1) c = c.sum
  | [] => rfl
  | x :: c => by rw [List.length_cons, List.replicate_succ, rs_cons, rs_ones c, List.sum_cons, Int.one_mul]
theorem ones_cols {p : Int} {w n : Nat} {m : List (List Int)} (hn : m.length = n) : ((cols w m).map fun c => dotp p (List.replicate n 1) c) = (cols w m).map fun c => c.sum % p := by
  subst hn
  refine List.map_congr_left fun c hc => ?_
  obtain ⟨j, _, rfl⟩ := List.mem_map.mp hc
  have := rs_ones (m.map fun v => v.getD j 0)
  rw [List.length_map] at this
  rw [dotp_rs, this]
theorem one_cols {p k : Int} {w : Nat} {v : List Int} (h : v.length = w) : ((cols w [v]).map fun c => dotp p [k] c) = v.map fun x => k * x % p := by
  conv => rhs; rw [range_eq h]
  unfold cols
  rw [List.map_map, List.map_map]
  refine List.map_congr_left fun j _ => ?_
  simp [dotp, Function.comp_def]
def addc (a b : List Int) : List Int := (a.zip b).map fun q => q.1 + q.2
theorem rs_add : ∀ (x a b : List Int), a.length = b.length → rs x (addc a b) = rs x a + rs x b
  | [], a, b, _ => by simp [rs_nil]
  | k :: x, [], [], _ => by simp [addc, rs_nil2]
  | k :: x, [], z :: b, h => by simp at h
  | k :: x, y :: a, [], h => by simp at h
  | k :: x, y :: a, z :: b, h => by
    have ih := rs_add x a b (by simpa using h)
    have e : addc (y :: a) (z :: b) = (y + z) :: addc a b := rfl
    rw [e, rs_cons, rs_cons, rs_cons, ih, Int.mul_add]
    omega
theorem cols_two {p : Int} {w : Nat} {a b : List Int} (ha : a.length = w) (hb : b.length = w) : ((cols w [a, b]).map fun c => c.sum % p) = (addc a b).map (· % p) := by
  apply List.ext_getElem
  · simp [cols, addc, ha, hb]
  · intro i h1 h2
    have hi : i < w := by simpa [cols] using h1
    simp [cols, addc, hi, ha, hb]
theorem dot_two {p : Int} {w : Nat} {x a b : List Int} (ha : a.length = w) (hb : b.length = w) : dotp p x ((cols w [a, b]).map fun c => c.sum % p) = (rs x a + rs x b) % p := by
  rw [cols_two ha hb, dotp_rs, rs_modR, rs_add x a b (by omega)]
end EV

namespace EV
open PySem L2
theorem v_at {i : Nat} {ρ : Env} {S : Sto} {d : D} (h : ρ[i]? = some (some d)) : eVar i ρ S = .ok d S := by simp [eVar, h]
theorem app_loc {o a : FE} {ρ : Env} {S S2 : Sto} {n : Nat} {v : D} {ds : List D} (h1 : o ρ S = .ok (.loc n) S) (h2 : a ρ S = .ok v S2) (h3 : S2[n]? = some (.lst ds)) (h4 : ds.length ≤ 1000) : eApp o a ρ S = .ok .non (S2.set n (.lst (ds ++ [v]))) := by
  simp only [eApp, h1, bind_ok, h2, h3]
  rw [if_pos (lt_sz (by omega))]
theorem get_a {U : Sto} {c : Cell} {m : Nat} (h : U.length = m) : (U ++ [c])[m]? = some c := by subst h; simp
theorem get_b {U : Sto} {c d : Cell} {m : Nat} (h : U.length = m) : (U ++ [c] ++ [d])[m]? = some c := by subst h; simp
theorem get_b2 {U : Sto} {c d : Cell} {m : Nat} (h : U.length = m) : (U ++ [c] ++ [d])[m + 1]? = some d := by subst h; simp
theorem set_a {U : Sto} {c c' : Cell} {m : Nat} (h : U.length = m) : (U ++ [c]).set m c' = U ++ [c'] := by subst h; simp
theorem set_b {U : Sto} {c c' d : Cell} {m : Nat} (h : U.length = m) : (U ++ [c] ++ [d]).set m c' = U ++ [c'] ++ [d] := by subst h; simp
theorem set_b2 {U : Sto} {c d d' : Cell} {m : Nat} (h : U.length = m) : (U ++ [c] ++ [d]).set (m + 1) d' = U ++ [c] ++ [d'] := by subst h; simp
theorem set_l {U : Sto} {c d e : Cell} {n : Nat} (h : n < U.length) : (U ++ [c] ++ [d]).set n e = U.set n e ++ [c] ++ [d] := by
  rw [List.append_assoc, List.set_append_left _ _ h, List.append_assoc]
theorem PotAt.app {S : Sto} {n k : Nat} (h : PotAt S n k) (T : Sto) : PotAt (S ++ T) n k := by
  obtain ⟨a, b, c, e, q⟩ := h
  exact ⟨a, b, c, by rw [List.getElem?_append_left (List.getElem?_eq_some_iff.mp e).1]; exact e, q⟩
theorem PotAt.lt {S : Sto} {n k : Nat} (h : PotAt S n k) : n < S.length := by
  obtain ⟨a, b, c, e, q⟩ := h
  exact (List.getElem?_eq_some_iff.mp e).1
theorem Pot.up {k k' : Nat} {a b c : Int} (h : Pot k a b c) (hk : k ≤ k') : Pot k' a b c := ⟨h.a0, h.b0, h.b1, h.c0, by have := h.c1; omega⟩
theorem PotAt.up {S : Sto} {n k k' : Nat} (h : PotAt S n k) (hk : k ≤ k') : PotAt S n k' := by
  obtain ⟨a, b, c, e, q⟩ := h
  exact ⟨a, b, c, e, q.up hk⟩
theorem repA_eq {S : Sto} {ds : List D} {k : Int} : gRepA S (.tup ds) (.int k) = if (decide (-(2 ^ 62) ≤ k) && decide (k < 2 ^ 62) && sz (ds.length * k.toNat)) = true then some (.tup (List.replicate k.toNat ds).flatten) else none := rfl
theorem mul_tup {S : Sto} {ds : List D} {k : Int} : gMul S (.tup ds) (.int k) = gRepA S (.tup ds) (.int k) := rfl
theorem cond62 {k : Int} {n : Nat} (h0 : 0 ≤ k) (h1 : k < 2 ^ 60) (hn : n * k.toNat ≤ 16777216) : (decide (-(2 ^ 62) ≤ k) && decide (k < 2 ^ 62) && sz (n * k.toNat)) = true := by
  rw [decide_eq_true (show -(2 ^ 62) ≤ k by omega), decide_eq_true (show k < 2 ^ 62 by omega), lt_sz hn]
  rfl
theorem rep_tup {S : Sto} {ds : List D} {k : Nat} (h1 : k ≤ 100000) (hn : ds.length * k ≤ 16777216) : gMul S (.tup ds) (.int (k : Int)) = some (.tup (List.replicate k ds).flatten) := by
  have e : ((k : Int)).toNat = k := Int.toNat_natCast k
  rw [mul_tup, repA_eq, if_some (cond62 (by omega) (by omega) (by rw [e]; exact hn)), e]
theorem Mat.sub {p : Int} {w : Nat} {m m' : List (List Int)} (h : Mat p w m) (hl : m'.length ≤ 100) (hs : ∀ v ∈ m', v ∈ m) : Mat p w m' := ⟨hl, fun v hv => h.row v (hs v hv)⟩
theorem smallV_mod {β : Type} {p : Int} (h0 : 0 < p) (h1 : p ≤ 97) (f : β → Int) {l : List β} (hl : l.length ≤ 1000) : smallV (l.map fun b => f b % p) :=
  ⟨by rw [List.length_map]; exact hl, fun x hx => by
    obtain ⟨b, _, rfl⟩ := List.mem_map.mp hx
    have := Int.emod_nonneg (f b) (b := p) (by omega)
    have := Int.emod_lt_of_pos (f b) h0
    omega⟩
theorem smallV_num {p : Int} {v : List Int} (h1 : p ≤ 97) (hv : v.all (num p) = true) (hl : v.length ≤ 1000) : smallV v := ⟨hl, fun x hx => by
  rw [List.all_eq_true] at hv
  have := hv x hx
  simp [num] at this
  omega⟩
/-- the sum of the products of two vectors, as the law works it out -/
theorem zip_sum {i j : Nat} {a b : List Int} {ρ : Env} {S : Sto} {x y : Nat} (hx : ρ[x]? = some (some (dV a))) (hy : ρ[y]? = some (some (dV b))) (hij : i ≠ j) (hi : i < ρ.length) (hj : j < ρ.length)
    (ha : small a) (hl : a.length ≤ 16777216) : eCallG gSum (aCons (eLc (iZip (eVar x) (eVar y)) (.tp [i, j]) tYesF (eBin gMul (eVar i) (eVar j)) [i, j]) aNil) ρ S = .ok (.int (rs a b)) S := by
  have k1 : kdD (dV a) = some (.t, a.map D.int) := rfl
  have k2 : kdD (dV b) = some (.t, b.map D.int) := rfl
  have h := lc_map (tg := .tp [i, j]) (a := eBin gMul (eVar i) (eVar j)) (ρ := wipeD ρ [i, j]) (S := S) (fun q : Int × Int => D.tup [.int q.1, .int q.2]) (fun q => .int (q.1 * q.2)) (a.zip b) (fun q hq => by
    have hs := ha q.1 (List.of_mem_zip hq).1
    refine ⟨((wipeD ρ [i, j]).set i (some (.int q.1))).set j (some (.int q.2)), rfl, ?_⟩
    have l1 : (wipeD ρ [i, j]).length = ρ.length := by simp [wipeD]
    rw [x_bin, v_at (d := .int q.1) (by rw [List.getElem?_set_ne (Ne.symm hij)]; exact List.getElem?_set_self (by omega)), bind_ok, v_at (d := .int q.2) (List.getElem?_set_self (by rw [List.length_set]; omega)), bind_ok, x_mulI (mul_small hs.1 hs.2), ofOpt_some])
  have hz : (a.zip b).length ≤ 16777216 := by rw [List.length_zip]; omega
  rw [x_callG, x_ac, x_lc]
  simp only [iZip, v_at hx, v_at hy, bind_ok, k1, k2, zip_v, List.length_map, lt_sz hz, if_true, h, x_an, su_lst, intsD_map, Option.map_some, ofOpt_some]
  rfl
end EV

namespace EV
open PySem L2
def varR (o : Option (Option D)) (S : Sto) : Res D := match o with
  | some (some d) => .ok d S
  | _ => .stuck
theorem x_var {i : Nat} {ρ : Env} {S : Sto} : eVar i ρ S = varR ρ[i]? S := (fun _ => rfl) ()
theorem varR_some {d : D} {S : Sto} : varR (some (some d)) S = .ok d S := (fun _ => rfl) ()
theorem Mat.take {p : Int} {w : Nat} {m : List (List Int)} (h : Mat p w m) (j : Nat) : Mat p w (m.take j) := h.sub (by rw [List.length_take]; have := h.len; omega) fun v hv => List.mem_of_mem_take hv
theorem Mat.drop {p : Int} {w : Nat} {m : List (List Int)} (h : Mat p w m) (j : Nat) : Mat p w (m.drop j) := h.sub (by rw [List.length_drop]; have := h.len; omega) fun v hv => List.mem_of_mem_drop hv
def addv (p : Int) (w : Nat) (m : List (List Int)) : List Int := (cols w m).map fun c => c.sum % p
theorem len_addv (p : Int) (w : Nat) (m : List (List Int)) : (addv p w m).length = w := by simp [addv, cols]
theorem addv_num {p : Int} {w : Nat} {m : List (List Int)} (h0 : 0 < p) : (addv p w m).all (num p) = true := by
  rw [List.all_eq_true]
  intro x hx
  obtain ⟨c, _, rfl⟩ := List.mem_map.mp hx
  have := Int.emod_nonneg c.sum (b := p) (by omega)
  have := Int.emod_lt_of_pos c.sum h0
  simp [num]
  omega
theorem small_ones : ∀ k, small (List.replicate k 1) := fun k x hx => by
  have := (List.mem_replicate.mp hx).2
  subst this
  decide
theorem comb_ones {p : Int} {w k : Nat} {m : List (List Int)} (hp : isMod p = true) (hw : w ≤ 100) (hm : Mat p w m) (hk : m.length = k) (S : Sto) :
    F_law_combined [.int p, .int (w : Int), dM m, dV (List.replicate k 1)] S = .ok (dV (addv p w m)) S := by
  have hp2 := isMod_le hp
  rw [law_combined_m (p := p) (w := w) (m := m) (by omega) (by omega) (fun v hv => (hm.row v hv).1) (small_ones k), ones_cols hk]
  rfl
theorem cut_take (ds : List D) (j : Nat) : cutD ds none (some (j : Int)) = ds.take j := by
  unfold cutD
  have e : HT.sIx ds.length 0 none = 0 := rfl
  rw [e, List.drop_zero, Nat.sub_zero]
  have e2 : HT.sIx ds.length ds.length (some (j : Int)) = min j ds.length := HT.sIx_nat _ _ _
  rw [e2]
  by_cases hj : j ≤ ds.length
  · rw [Nat.min_eq_left hj]
  · rw [Nat.min_eq_right (by omega), List.take_of_length_le (by omega), List.take_of_length_le (by omega)]
end EV

namespace EV
open PySem L2
theorem four_of {a : List (List Int)} (h : a.length = 4) : ∃ v1 v2 v3 v4, a = [v1, v2, v3, v4] := by
  match a, h with
  | [v1, v2, v3, v4], _ => exact ⟨v1, v2, v3, v4, rfl⟩
theorem slice_v {ρ : Env} {S : Sto} {m : List (List Int)} {j : Nat} {x y : Nat} (hx : ρ[x]? = some (some (dM m))) (hy : ρ[y]? = some (some (.int (j : Int)))) : eSlice (eVar x) oNone (oSome (eVar y)) ρ S = .ok (dM (m.take j)) S := by
  have e : itemsT (dM m) = some (m.map dV) := rfl
  simp only [eSlice, v_at hx, bind_ok, oNone, oSome, v_at hy, e, cut_take]
  unfold dM
  rw [List.map_take]
theorem rep_ones {j : Nat} (hj : j ≤ 1000) (S : Sto) : gMul S (.tup [.int 1]) (.int (j : Int)) = some (dV (List.replicate j 1)) := by
  rw [rep_tup (by omega) (by simp only [List.length_singleton]; omega), List.flatten_replicate_singleton]
  unfold dV
  rw [List.map_replicate]
theorem due_l {p : Int} {w n : Nat} {m : List (List Int)} (hp : isMod p = true) (hw : w ≤ 100) (M : Mat p w m) (hm : m.length = 4) (T : Sto) (o1 o4 o5 o6 o7 o8 : Option D) :
    eLcM (iRange2 (eC (.int 1)) (eC (.int 5))) (.nm 13) tYesF (eCall F_law_combined (aCons (eVar 1) (aCons (eVar 2) (aCons (eSlice (eVar 3) oNone (oSome (eVar 13))) (aCons (eBin gMul (eTup (aCons (eC (.int 1)) aNil)) (eVar 13)) aNil))))) [13]
      [o1, some (.int p), some (.int (w : Int)), some (dM m), o4, o5, o6, o7, o8, none, none, none, none, none, none, none] T = .ok (.loc T.length) (T ++ [.lst ([1, 2, 3, 4].map fun j => dV (addv p w (m.take j)))]) := by
  have h := lc_map (tg := .nm 13) (a := eCall F_law_combined (aCons (eVar 1) (aCons (eVar 2) (aCons (eSlice (eVar 3) oNone (oSome (eVar 13))) (aCons (eBin gMul (eTup (aCons (eC (.int 1)) aNil)) (eVar 13)) aNil))))) (ρ := [o1, some (.int p), some (.int (w : Int)), some (dM m), o4, o5, o6, o7, o8, none, none, none, none, none, none, none])
    (S := T) (fun j : Nat => D.int (j : Int)) (fun j => dV (addv p w (m.take j))) [1, 2, 3, 4] (fun j hj => ⟨[o1, some (.int p), some (.int (w : Int)), some (dM m), o4, o5, o6, o7, o8, none, none, none, none, some (.int (j : Int)), none, none], rfl, by
    have hj4 : j ≤ 4 := by simp at hj; omega
    have hl : (m.take j).length = j := by rw [List.length_take]; omega
    rw [x_call, x_ac, x_var]
    simp only [List.getElem?_cons_succ, List.getElem?_cons_zero, varR_some, bind_ok, x_ac, x_var]
    rw [slice_v (m := m) (j := j) rfl rfl]
    simp only [bind_ok, x_bin, x_tup, x_ac, x_c, x_an, List.length_singleton, lt_sz (show 1 ≤ 16777216 by omega), if_true, List.getElem?_cons_succ, List.getElem?_cons_zero, varR_some, x_var, rep_ones (show j ≤ 1000 by omega), ofOpt_some]
    exact comb_ones hp hw (M.take j) hl T⟩)
  have e : iRange2 (eC (.int 1)) (eC (.int 5)) [o1, some (.int p), some (.int (w : Int)), some (dM m), o4, o5, o6, o7, o8, none, none, none, none, none, none, none] T = .ok ([1, 2, 3, 4].map fun j : Nat => D.int (j : Int)) T := by
    simp only [iRange2, x_c, bind_ok]
    rw [if_pos (by decide)]
    rfl
  have hs : sz ([1, 2, 3, 4].map fun j : Nat => D.int (j : Int)).length = true := lt_sz (by simp)
  have w1 : wipeD [o1, some (.int p), some (.int (w : Int)), some (dM m), o4, o5, o6, o7, o8, none, none, none, none, none, none, none] [13] = [o1, some (.int p), some (.int (w : Int)), some (dM m), o4, o5, o6, o7, o8, none, none, none, none, none, none, none] := rfl
  unfold eLcM
  simp only [e, bind_ok, hs, if_true, w1, h]
theorem add_loc {S : Sto} {n : Nat} {x y : List D} (h : S[n]? = some (.lst x)) (hz : x.length + y.length ≤ 16777216) : gAdd S (.loc n) (.lst y) = some (.lst (x ++ y)) := by
  have e : gAddL S (.loc n) (.lst y) = some (.lst (x ++ y)) := by
    simp only [gAddL, items, h, lt_sz hz, if_true]
  exact (by rw [← e]; rfl)
theorem sums_d {S : Sto} {n k w : Nat} {p : Int} (hp : isMod p = true) (hw : w ≤ 100) (h : PotAt S n k) (hk : k + (1 + 2 * w) * 4 + 1 ≤ 1000000) :
    ∃ S', F_law_sums_right [.loc n, .int p, .int (w : Int)] S = .ok (.bl true) S' ∧ PotAt S' n (k + (1 + 2 * w) * 4 + 1) := by
  have hp2 := isMod_le hp
  obtain ⟨a, S1, e1, la, ra, d1⟩ := matrix_d (w := w) (many := 4) (m := p) h (by omega) (by omega) (by omega) (by omega) (by omega)
  obtain ⟨v1, v2, v3, v4, rfl⟩ := four_of la
  have M : Mat p w [v1, v2, v3, v4] := ⟨by simp, ra⟩
  have M1 : Mat p w [v1] := M.take 1
  have M2 : Mat p w [v1, v2] := M.take 2
  have M3 : Mat p w [v1, v2, v3] := M.take 3
  have M23 : Mat p w [v2, v3] := (M.drop 1).take 2
  have r1 := ra v1 (by simp)
  have r2 := ra v2 (by simp)
  have r3 := ra v3 (by simp)
  have s1 := small_of r1.2 hp2.2
  have s2 := small_of r2.2 hp2.2
  have e1' : F_law_matrix [.loc n, .int p, .int (w : Int), .int 4] S = .ok (dM [v1, v2, v3, v4]) S1 := e1
  have f1 : ∀ T, F_added [.int p, dV v1] T = .ok (dV (addv p w [v1])) T := fun T => added_m (os := []) hp M1 (by omega) T
  have f2 : ∀ T, F_added [.int p, dV v1, dV v2] T = .ok (dV (addv p w [v1, v2])) T := fun T => added_m (os := [v2]) hp M2 (by omega) T
  have f3 : ∀ T, F_added [.int p, dV v1, dV v2, dV v3] T = .ok (dV (addv p w [v1, v2, v3])) T := fun T => added_m (os := [v2, v3]) hp M3 (by omega) T
  have f4 : ∀ T, F_added [.int p, dV v1, dV v2, dV v3, dV v4] T = .ok (dV (addv p w [v1, v2, v3, v4])) T := fun T => added_m (os := [v2, v3, v4]) hp M (by omega) T
  have f23 : ∀ T, F_added [.int p, dV v2, dV v3] T = .ok (dV (addv p w [v2, v3])) T := fun T => added_m (os := [v3]) hp M23 (by omega) T
  have hn1 : n < S1.length := d1.at.lt
  obtain ⟨r, S2, e2, h0, h1, d2⟩ := take_d (m := p) (d1.at.app ([.lst [dV (addv p w [v1]), dV (addv p w [v1, v2]), dV (addv p w [v1, v2, v3]), dV (addv p w [v1, v2, v3, v4])]] ++ [.lst [dV (addv p w [v1]), dV (addv p w [v1, v2]), dV (addv p w [v1, v2, v3]), dV (addv p w [v1, v2, v3, v4])]])) (by omega) (by omega) (by omega)
  rw [← List.append_assoc] at e2 d2
  have hr : num p r = true := by simp [num, h0, h1]
  obtain ⟨ca, cb, cc, rfl, pt, _⟩ := d2
  rw [set_l hn1] at e2
  let U := S1.set n (.lst [.int ca, .int cb, .int cc])
  have hU : U.length = S1.length := List.length_set
  have g1 : ∀ T, F_scaled [.int p, .int r, dV v1] T = .ok (dV (v1.map fun x => r * x % p)) T := fun T => scaled_v hp hr r1.2 (by omega) T
  have g2 : ∀ T, F_law_combined [.int p, .int (w : Int), dM [v1], dV [r]] T = .ok (dV (v1.map fun x => r * x % p)) T := fun T => by
    rw [law_combined_m (p := p) (w := w) (m := [v1]) (f := [r]) (by omega) (by omega) (fun v hv => (M1.row v hv).1) (fun x hx => by simp at hx; subst hx; omega), one_cols r1.1]
  have q12 : ∀ T, F_dot [.int p, dV v1, dV v2] T = .ok (.int (rs v1 v2 % p)) T := fun T => dot_v hp r1.2 r2.2 (by omega) (by omega) T
  have q21 : ∀ T, F_dot [.int p, dV v2, dV v1] T = .ok (.int (rs v1 v2 % p)) T := fun T => by
    rw [dot_v hp r2.2 r1.2 (by omega) (by omega) T, dotp_rs, rs_comm]
  have q123 : ∀ T, F_dot [.int p, dV v1, dV (addv p w [v2, v3])] T = .ok (.int ((rs v1 v2 + rs v1 v3) % p)) T := fun T => by
    rw [dot_v hp r1.2 (addv_num (by omega)) (by rw [len_addv]; omega) (by omega) T]
    unfold addv
    rw [dot_two r2.1 r3.1]
  let L4 : List D := [dV (addv p w [v1]), dV (addv p w [v1, v2]), dV (addv p w [v1, v2, v3]), dV (addv p w [v1, v2, v3, v4])]
  let L5 : List D := L4 ++ [dV (v1.map fun x => r * x % p)]
  let X : List D := L5 ++ [.int (rs v1 v2 % p), .int (rs v1 v2 % p), .int ((rs v1 v2 + rs v1 v3) % p)]
  let T5 : Sto := U ++ [.lst L5] ++ [.lst L5]
  have rX : ∃ t, gRepr T5 [.lst X] = some (.str t) := by
    have sv : ∀ m, smallV (addv p w m) := fun m => smallV_mod (by omega) hp2.2 _ (by simp [cols]; omega)
    have sw : smallV (v1.map fun x => r * x % p) := smallV_mod (by omega) hp2.2 (fun x => r * x) (by omega)
    have si : ∀ z : Int, Sm T5 (.int (z % p)) (.int (z % p)) 1 24 := fun z => Sm.int (by
      have := Int.emod_nonneg z (b := p) (by omega)
      have := Int.emod_lt_of_pos z (show 0 < p by omega)
      omega)
    exact ⟨_, repr_sm (Sms.lst (Sms.cons (sm_dV (sv _)) (Sms.cons (sm_dV (sv _)) (Sms.cons (sm_dV (sv _)) (Sms.cons (sm_dV (sv _)) (Sms.cons (sm_dV sw) (Sms.cons (si _) (Sms.cons (si _) (Sms.cons (si _) (Sms.nil (w := 0))))))))))) rfl (by omega) (by omega)⟩
  obtain ⟨t, rX⟩ := rX
  refine ⟨T5, ?_, ?_⟩
  · have e0 : endD (s_law_sums_right [some (.loc n), some (.int p), some (.int (w : Int)), none, none, none, none, none, none, none, none, none, none, none, none, none] S) = .ok (.bl true) T5 := by
      rw [e_law_sums_right]
      rw [x_seq, x_set]
      simp only [x_call, x_ac, x_an, x_var, List.getElem?_cons_succ, List.getElem?_cons_zero, varR_some, bind_ok, x_c, e1', then_ok, seq_nx, List.set_cons_succ, List.set_cons_zero]
      rw [x_seq]
      have st : sTup (.tp [4, 5, 6, 7]) (eVar 3) [some (.loc n), some (.int p), some (.int (w : Int)), some (dM [v1, v2, v3, v4]), none, none, none, none, none, none, none, none, none, none, none, none] S1 =
        .nx [some (.loc n), some (.int p), some (.int (w : Int)), some (dM [v1, v2, v3, v4]), some (dV v1), some (dV v2), some (dV v3), some (dV v4), none, none, none, none, none, none, none, none] S1 := (fun _ => rfl) ()
      rw [st, seq_nx, x_seq, x_set]
      simp only [x_loc, x_call, x_ac, x_an, x_var, List.getElem?_cons_succ, List.getElem?_cons_zero, varR_some, bind_ok, f1, f2, f3, List.length_cons, List.length_nil, lt_sz (show 0 + 1 + 1 + 1 ≤ 16777216 by omega), if_true, then_ok, seq_nx, List.set_cons_succ, List.set_cons_zero]
      rw [x_seq, x_drop]
      rw [app_loc (n := S1.length) (v := dV (addv p w [v1, v2, v3, v4])) (S2 := S1 ++ [.lst [dV (addv p w [v1]), dV (addv p w [v1, v2]), dV (addv p w [v1, v2, v3])]]) (v_at rfl) (by simp only [x_call, x_ac, x_an, x_var, List.getElem?_cons_succ, List.getElem?_cons_zero, varR_some, bind_ok, f4]) (get_a rfl) (by simp)]
      rw [then_ok, set_a rfl, seq_nx, x_seq, x_set]
      rw [due_l (n := n) hp hw M la]
      have hlen : (S1 ++ [Cell.lst ([dV (addv p w [v1]), dV (addv p w [v1, v2]), dV (addv p w [v1, v2, v3])] ++ [dV (addv p w [v1, v2, v3, v4])])]).length = S1.length + 1 := by simp
      have hmap : ([1, 2, 3, 4].map fun j => dV (addv p w ([v1, v2, v3, v4].take j))) = [dV (addv p w [v1]), dV (addv p w [v1, v2]), dV (addv p w [v1, v2, v3]), dV (addv p w [v1, v2, v3, v4])] := rfl
      have hap : [dV (addv p w [v1]), dV (addv p w [v1, v2]), dV (addv p w [v1, v2, v3])] ++ [dV (addv p w [v1, v2, v3, v4])] = [dV (addv p w [v1]), dV (addv p w [v1, v2]), dV (addv p w [v1, v2, v3]), dV (addv p w [v1, v2, v3, v4])] := rfl
      rw [hlen, hmap, hap, then_ok, seq_nx]
      simp only [List.set_cons_succ, List.set_cons_zero]
      rw [x_seq, x_set]
      simp only [x_call, x_ac, x_an, x_var, List.getElem?_cons_succ, List.getElem?_cons_zero, varR_some, bind_ok, e2, then_ok, seq_nx, List.set_cons_succ, List.set_cons_zero]
      rw [x_seq, x_drop]
      rw [app_loc (n := S1.length) (v := dV (v1.map fun x => r * x % p)) (S2 := U ++ [.lst L4] ++ [.lst L4]) (ds := L4) (v_at rfl) (by simp only [x_call, x_ac, x_an, x_var, List.getElem?_cons_succ, List.getElem?_cons_zero, varR_some, bind_ok, g1]; rfl) (get_b hU) (by simp [L4])]
      rw [then_ok, set_b hU, seq_nx, x_seq, x_drop]
      have h1r : D.tup [dV v1] = dM [v1] := rfl
      have h1k : D.tup [.int r] = dV [r] := rfl
      rw [app_loc (n := S1.length + 1) (v := dV (v1.map fun x => r * x % p)) (S2 := U ++ [.lst L5] ++ [.lst L4]) (ds := L4) (v_at rfl) (by simp only [x_call, x_tup, x_ac, x_an, x_var, List.getElem?_cons_succ, List.getElem?_cons_zero, varR_some, bind_ok, List.length_cons, List.length_nil, lt_sz (show 0 + 1 ≤ 16777216 by omega), if_true, h1r, h1k, g2]; rfl) (get_b2 hU) (by simp [L4])]
      rw [then_ok, set_b2 hU, seq_nx, x_seq, x_set]
      have c8 : (U ++ [.lst L5] ++ [.lst L5])[S1.length]? = some (.lst L5) := get_b hU
      have c9 : (U ++ [.lst L5] ++ [.lst L5])[S1.length + 1]? = some (.lst L5) := get_b2 hU
      have hT : U ++ [.lst L5] ++ [.lst (L4 ++ [dV (v1.map fun x => r * x % p)])] = T5 := rfl
      have a8 : gAdd T5 (.loc S1.length) (.lst [.int (rs v1 v2 % p), .int (rs v1 v2 % p), .int ((rs v1 v2 + rs v1 v3) % p)]) = some (.lst X) := add_loc c8 (by simp [L5, L4])
      have a9 : gAdd T5 (.loc (S1.length + 1)) (.lst [.int (rs v1 v2 % p), .int (rs v1 v2 % p), .int ((rs v1 v2 + rs v1 v3) % p)]) = some (.lst X) := add_loc c9 (by simp [L5, L4])
      have hp0 : 0 < p := by omega
      rw [hT]
      simp only [x_bin, x_lst, x_call, x_ac, x_an, x_var, List.getElem?_cons_succ, List.getElem?_cons_zero, varR_some, bind_ok, q12, q21, f23, q123, List.length_cons, List.length_nil, lt_sz (show 0 + 1 + 1 + 1 ≤ 16777216 by omega), if_true, a8, ofOpt_some, then_ok, seq_nx, List.set_cons_succ, List.set_cons_zero]
      rw [x_seq, x_set, zip_sum (a := v1) (b := v2) rfl rfl (by omega) (by simp) (by simp) s1 (by omega), then_ok, seq_nx]
      simp only [List.set_cons_succ, List.set_cons_zero]
      rw [x_seq, x_set, zip_sum (a := v1) (b := v3) rfl rfl (by omega) (by simp) (by simp) s1 (by omega), then_ok, seq_nx]
      simp only [List.set_cons_succ, List.set_cons_zero]
      rw [x_seq, x_ret]
      simp only [x_bin, x_callG, x_lst, x_ac, x_an, x_var, List.getElem?_cons_succ, List.getElem?_cons_zero, varR_some, bind_ok, rX, ofOpt_some, x_modI hp0, x_addI, List.length_cons, List.length_nil, lt_sz (show 0 + 1 + 1 + 1 ≤ 16777216 by omega), if_true, a9, eqS, decide_true, then_ok, seq_rt, x_end2]
    exact e0
  · exact ⟨ca, cb, cc, by
      show (U ++ [.lst L5] ++ [.lst L5])[n]? = _
      rw [List.append_assoc, List.getElem?_append_left (by omega)]
      exact List.getElem?_set_self hn1, pt⟩
end EV

namespace EV
open PySem L2
theorem Drawn.up {S S' : Sto} {n k k' : Nat} (h : Drawn S n k S') (hk : k ≤ k') : Drawn S n k' S' := by
  obtain ⟨a, b, c, e, q, hn⟩ := h
  exact ⟨a, b, c, e, q.up hk, hn⟩
theorem ne_M {S : Sto} {m : List (List Int)} (hl : m.length ≤ 10) (h : ∀ v ∈ m, smallV v) : gNE S (dM m) (dM m) = some (.bl false) := ne_sm (sm_dM hl h) (by omega)
theorem repr_M {S : Sto} {m : List (List Int)} (hl : m.length ≤ 10) (h : ∀ v ∈ m, smallV v) : gRepr S [dM m] = some (.str (PM m).shown) := repr_sm (sm_dM hl h) rfl (by omega) (by omega)
theorem repr_V {S : Sto} {v : List Int} (h : smallV v) : gRepr S [dV v] = some (.str (PV v).shown) := repr_sm (sm_dV h) rfl (by omega) (by omega)
theorem neS_same {S : Sto} {x : Str} : gNE S (.str x) (.str x) = some (.bl false) := by rw [eqS.2]; simp
theorem eqS_same {S : Sto} {x : Str} : gEQ S (.str x) (.str x) = some (.bl true) := by rw [eqS.1]; simp
theorem Mat.small {p : Int} {w : Nat} {m : List (List Int)} (hp : p ≤ 97) (hw : w ≤ 1000) (h : Mat p w m) : ∀ v ∈ m, smallV v := fun v hv => smallV_num hp (h.row v hv).2 (by have := (h.row v hv).1; omega)
theorem Mat.prod {p : Int} {w n : Nat} {a b : List (List Int)} (h0 : 0 < p) (ha : a.length ≤ 100) : Mat p w (prod p w a b) := by
  refine ⟨by simpa [EV.prod] using ha, fun v hv => ?_⟩
  obtain ⟨r, _, rfl⟩ := List.mem_map.mp hv
  refine ⟨by simp [cols], ?_⟩
  rw [List.all_eq_true]
  intro x hx
  obtain ⟨c, _, rfl⟩ := List.mem_map.mp hx
  have := Int.emod_nonneg (rs r c) (b := p) (by omega)
  have := Int.emod_lt_of_pos (rs r c) h0
  have e : dotp p r c = rs r c % p := rfl
  simp [num]
  omega
theorem Mat.cols {p : Int} {w n : Nat} {m : List (List Int)} (h : Mat p w m) (hw : w ≤ 100) (hn : m.length = n) : Mat p n (cols w m) := by
  refine ⟨by simpa [EV.cols] using hw, fun v hv => ?_⟩
  obtain ⟨j, hj, rfl⟩ := List.mem_map.mp hv
  have hj := List.mem_range.mp hj
  refine ⟨by simpa using hn, ?_⟩
  rw [List.all_eq_true]
  intro x hx
  obtain ⟨u, hu, rfl⟩ := List.mem_map.mp hx
  obtain ⟨h1, h2⟩ := h.row u hu
  rw [List.all_eq_true] at h2
  have : u.getD j 0 ∈ u := by
    have hj2 : j < u.length := by omega
    simp [hj2]
  exact h2 _ this
theorem len_prod (p : Int) (w : Nat) (a b : List (List Int)) : (EV.prod p w a b).length = a.length := by simp [EV.prod]
theorem products_d {S : Sto} {n k mo l r w : Nat} {p : Int} (hp : isMod p = true) (hmo : mo ≤ 5) (hl : l ≤ 5) (hr : r ≤ 5) (hw : w ≤ 7) (h : PotAt S n k) (hk : k + 500 ≤ 1000000) :
    ∃ S', F_law_products_right [.loc n, .int p, .lst [.int (mo : Int), .int (l : Int), .int (r : Int), .int (w : Int)]] S = .ok (.bl true) S' ∧ Drawn S n (k + 500) S' := by
  have hp2 := isMod_le hp
  have b1 : (1 + 2 * l) * mo ≤ 11 * 5 := Nat.mul_le_mul (by omega) hmo
  have b2 : (1 + 2 * r) * l ≤ 11 * 5 := Nat.mul_le_mul (by omega) hl
  have b3 : (1 + 2 * w) * r ≤ 15 * 5 := Nat.mul_le_mul (by omega) hr
  obtain ⟨a, S1, e1, la, ra, d1⟩ := matrix_d (w := l) (many := mo) (m := p) h (by omega) (by omega) (by omega) (by omega) (by omega)
  obtain ⟨b, S2, e2, lb, rb, d2⟩ := matrix_d (w := r) (many := l) (m := p) d1.at (by omega) (by omega) (by omega) (by omega) (by omega)
  obtain ⟨c, S3, e3, lc, rc, d3⟩ := matrix_d (w := w) (many := r) (m := p) d2.at (by omega) (by omega) (by omega) (by omega) (by omega)
  obtain ⟨x, S4, e4, lx, nx, d4⟩ := vector_d (sz0 := r) (m := p) d3.at (by omega) (by omega) (by omega) (by omega)
  have A : Mat p l a := ⟨by omega, ra⟩
  have B : Mat p r b := ⟨by omega, rb⟩
  have C : Mat p w c := ⟨by omega, rc⟩
  have ab : ∀ T, F_product [.int p, .int (r : Int), dM a, dM b] T = .ok (dM (prod p r a b)) T := fun T => product_m hp (by omega) B lb A T
  have AB : Mat p r (prod p r a b) := Mat.prod (n := l) (by omega) (by omega)
  have BC : Mat p w (prod p w b c) := Mat.prod (n := r) (by omega) (by omega)
  have ABC : Mat p w (prod p w (prod p r a b) c) := Mat.prod (n := r) (by omega) (by rw [len_prod]; omega)
  have AT : Mat p mo (cols l a) := A.cols (by omega) la
  have BT : Mat p l (cols r b) := B.cols (by omega) lb
  have ABT : Mat p mo (cols r (prod p r a b)) := AB.cols (by omega) (by rw [len_prod]; exact la)
  have abc : ∀ T, F_product [.int p, .int (w : Int), dM (prod p r a b), dM c] T = .ok (dM (prod p w (prod p r a b) c)) T := fun T => product_m hp (by omega) C lc AB T
  have bc : ∀ T, F_product [.int p, .int (w : Int), dM b, dM c] T = .ok (dM (prod p w b c)) T := fun T => product_m hp (by omega) C lc B T
  have a_bc : ∀ T, F_product [.int p, .int (w : Int), dM a, dM (prod p w b c)] T = .ok (dM (prod p w (prod p r a b) c)) T := fun T => by
    rw [product_m hp (by omega) BC (by rw [len_prod]; exact lb) A T, prod_assoc fun v hv => (B.row v hv).1]
  have ta : ∀ T, F_transposed [.int p, .int (l : Int), dM a] T = .ok (dM (cols l a)) T := fun T => transposed_m hp (by omega) A T
  have tta : ∀ T, F_transposed [.int p, .int (mo : Int), dM (cols l a)] T = .ok (dM a) T := fun T => by
    rw [transposed_m hp (by omega) AT T, cols_cols la fun v hv => (A.row v hv).1]
  have ca : ∀ T, F_law_columns [.int (l : Int), dM a] T = .ok (dM (cols l a)) T := fun T => law_columns_m (row_len A) (by omega) (by omega) T
  have tb : ∀ T, F_transposed [.int p, .int (r : Int), dM b] T = .ok (dM (cols r b)) T := fun T => transposed_m hp (by omega) B T
  have tab : ∀ T, F_transposed [.int p, .int (r : Int), dM (prod p r a b)] T = .ok (dM (cols r (prod p r a b))) T := fun T => transposed_m hp (by omega) AB T
  have tbta : ∀ T, F_product [.int p, .int (mo : Int), dM (cols r b), dM (cols l a)] T = .ok (dM (cols r (prod p r a b))) T := fun T => by
    rw [product_m hp (by omega) AT (by simp [cols]) BT T, prod_flip la fun v hv => (A.row v hv).1]
  have co : ∀ T, F_combination [.int p, .int (w : Int), dM c, dV x] T = .ok (dV ((cols w c).map fun q => dotp p x q)) T := fun T => combination_m hp (by omega) C nx (by omega) T
  have co2 : ∀ T, F_law_combined [.int p, .int (w : Int), dM c, dV x] T = .ok (dV ((cols w c).map fun q => dotp p x q)) T := fun T => law_combined_m (by omega) (by omega) (fun v hv => (C.row v hv).1) (small_of nx hp2.2) T
  have sx : smallV ((cols w c).map fun q => dotp p x q) := smallV_mod (by omega) hp2.2 (fun q => rs x q) (by simp [cols]; omega)
  have three : ∀ T, gRepr T [.tup [dM a, dM b, dM c]] = some (.str (PyData.tuple [PM a, PM b, PM c]).shown) := fun T => repr_sm (Sms.tup (Sms.cons (sm_dM (by omega) (A.small hp2.2 (by omega))) (Sms.cons (sm_dM (by omega) (B.small hp2.2 (by omega))) (Sms.cons (sm_dM (by omega) (C.small hp2.2 (by omega))) (Sms.nil (w := 0)))))) rfl (by omega) (by omega)
  have rab : ∀ T, gRepr T [dM (prod p r a b)] = some (.str (PM (prod p r a b)).shown) := fun T => repr_M (by rw [len_prod]; omega) (AB.small hp2.2 (by omega))
  have rat : ∀ T, gRepr T [dM (cols l a)] = some (.str (PM (cols l a)).shown) := fun T => repr_M (by simp [cols]; omega) (AT.small hp2.2 (by omega))
  have ra' : ∀ T, gRepr T [dM a] = some (.str (PM a).shown) := fun T => repr_M (by omega) (A.small hp2.2 (by omega))
  have rx : ∀ T, gRepr T [dV ((cols w c).map fun q => dotp p x q)] = some (.str (PV ((cols w c).map fun q => dotp p x q)).shown) := fun T => repr_V sx
  have nabc : ∀ T, gNE T (dM (prod p w (prod p r a b) c)) (dM (prod p w (prod p r a b) c)) = some (.bl false) := fun T => ne_M (by rw [len_prod, len_prod]; omega) (ABC.small hp2.2 (by omega))
  have nabt : ∀ T, gNE T (dM (cols r (prod p r a b))) (dM (cols r (prod p r a b))) = some (.bl false) := fun T => ne_M (by simp [cols]; omega) (ABT.small hp2.2 (by omega))
  have lc : ∀ (o10 o11 : Option D) (T : Sto), eCallG gTuple (aCons (eLc (iSeq (eVar 7)) (.nm 15) tYesF (eCall F_law_combined (aCons (eVar 1) (aCons (eVar 5) (aCons (eVar 8) (aCons (eVar 15) aNil))))) [15]) aNil)
      [some (.loc n), some (.int p), some (.lst [.int (mo : Int), .int (l : Int), .int (r : Int), .int (w : Int)]), some (.int (mo : Int)), some (.int (l : Int)), some (.int (r : Int)), some (.int (w : Int)), some (dM a), some (dM b), some (dM c), o10, o11, none, none, none, none] T = .ok (dM (prod p r a b)) T := fun o10 o11 T => by
    have h := lc_map (tg := .nm 15) (a := eCall F_law_combined (aCons (eVar 1) (aCons (eVar 5) (aCons (eVar 8) (aCons (eVar 15) aNil))))) (ρ := [some (.loc n), some (.int p), some (.lst [.int (mo : Int), .int (l : Int), .int (r : Int), .int (w : Int)]), some (.int (mo : Int)), some (.int (l : Int)), some (.int (r : Int)), some (.int (w : Int)), some (dM a), some (dM b), some (dM c), o10, o11, none, none, none, none]) (S := T)
      dV (fun q => dV ((cols r b).map fun z => dotp p q z)) a (fun q hq => ⟨_, rfl, by
        simp only [x_call, x_ac, x_an, x_var, List.set_cons_succ, List.set_cons_zero, List.getElem?_cons_succ, List.getElem?_cons_zero, varR_some, bind_ok]
        exact law_combined_m (by omega) (by omega) (fun v hv => (B.row v hv).1) (small_of (A.row q hq).2 hp2.2) T⟩)
    have g : itemsI (dM a) = some (a.map dV) := rfl
    have hz : sz (a.map dV).length = true := lt_sz (by rw [List.length_map]; omega)
    have w1 : wipeD [some (.loc n), some (.int p), some (.lst [.int (mo : Int), .int (l : Int), .int (r : Int), .int (w : Int)]), some (.int (mo : Int)), some (.int (l : Int)), some (.int (r : Int)), some (.int (w : Int)), some (dM a), some (dM b), some (dM c), o10, o11, none, none, none, none] [15] = [some (.loc n), some (.int p), some (.lst [.int (mo : Int), .int (l : Int), .int (r : Int), .int (w : Int)]), some (.int (mo : Int)), some (.int (l : Int)), some (.int (r : Int)), some (.int (w : Int)), some (dM a), some (dM b), some (dM c), o10, o11, none, none, none, none] := rfl
    rw [x_callG, x_ac, x_lc]
    simp only [x_iSeq, x_var, List.getElem?_cons_succ, List.getElem?_cons_zero, varR_some, bind_ok, g, ofOpt_some, hz, if_true, w1, h, x_an, tp_lst]
    unfold dM prod
    rw [List.map_map]
    rfl
  refine ⟨S4, ?_, ((d1.trans d2).trans (d3.trans d4)).up (by omega)⟩
  have e0 : endD (s_law_products_right [some (.loc n), some (.int p), some (.lst [.int (mo : Int), .int (l : Int), .int (r : Int), .int (w : Int)]), none, none, none, none, none, none, none, none, none, none, none, none, none] S) = .ok (.bl true) S4 := by
    have st : sTup (.tp [3, 4, 5, 6]) (eVar 2) [some (.loc n), some (.int p), some (.lst [.int (mo : Int), .int (l : Int), .int (r : Int), .int (w : Int)]), none, none, none, none, none, none, none, none, none, none, none, none, none] S =
      .nx [some (.loc n), some (.int p), some (.lst [.int (mo : Int), .int (l : Int), .int (r : Int), .int (w : Int)]), some (.int (mo : Int)), some (.int (l : Int)), some (.int (r : Int)), some (.int (w : Int)), none, none, none, none, none, none, none, none, none] S := (fun _ => rfl) ()
    have st2 : sTup (.tp [7, 8]) (eTup (aCons (eCall F_law_matrix (aCons (eVar 0) (aCons (eVar 1) (aCons (eVar 4) (aCons (eVar 3) aNil))))) (aCons (eCall F_law_matrix (aCons (eVar 0) (aCons (eVar 1) (aCons (eVar 5) (aCons (eVar 4) aNil))))) aNil))) [some (.loc n), some (.int p), some (.lst [.int (mo : Int), .int (l : Int), .int (r : Int), .int (w : Int)]), some (.int (mo : Int)), some (.int (l : Int)), some (.int (r : Int)), some (.int (w : Int)), none, none, none, none, none, none, none, none, none] S =
      .nx [some (.loc n), some (.int p), some (.lst [.int (mo : Int), .int (l : Int), .int (r : Int), .int (w : Int)]), some (.int (mo : Int)), some (.int (l : Int)), some (.int (r : Int)), some (.int (w : Int)), some (dM a), some (dM b), none, none, none, none, none, none, none] S2 := by
      unfold sTup
      simp only [x_tup, x_call, x_ac, x_an, x_var, List.getElem?_cons_succ, List.getElem?_cons_zero, varR_some, bind_ok, e1, e2, List.length_cons, List.length_nil, lt_sz (show 0 + 1 + 1 ≤ 16777216 by omega), if_true, then_ok]
      rfl
    have er : ∀ ρ T, iRange1 (eC (.int 2)) ρ T = .ok [.int 0, .int 1] T := fun ρ T => (fun _ => rfl) ()
    rw [e_law_products_right]
    rw [x_seq, st, seq_nx, x_seq, st2, seq_nx, x_seq, x_set]
    simp only [x_call, x_ac, x_an, x_var, List.getElem?_cons_succ, List.getElem?_cons_zero, varR_some, bind_ok, e3, then_ok, seq_nx, List.set_cons_succ, List.set_cons_zero]
    rw [x_seq, x_set]
    simp only [x_callG, x_tup, x_ac, x_an, x_var, List.getElem?_cons_succ, List.getElem?_cons_zero, varR_some, bind_ok, List.length_cons, List.length_nil, lt_sz (show 0 + 1 + 1 + 1 ≤ 16777216 by omega), if_true, three, ofOpt_some, then_ok, seq_nx, List.set_cons_succ, List.set_cons_zero]
    rw [x_seq, x_set]
    simp only [x_call, x_ac, x_an, x_var, List.getElem?_cons_succ, List.getElem?_cons_zero, varR_some, bind_ok, ab, then_ok, seq_nx, List.set_cons_succ, List.set_cons_zero]
    rw [x_seq, x_sif, x_tBl, x_bin, x_callG, x_ac, x_var]
    simp only [List.getElem?_cons_succ, List.getElem?_cons_zero, varR_some, bind_ok, x_an, rab, ofOpt_some]
    rw [x_callG, x_ac, lc]
    simp only [bind_ok, x_an, rab, ofOpt_some, neS_same, then_ok, Bool.false_eq_true, if_false, x_next, seq_nx]
    rw [x_seq, x_sif]
    simp only [x_tBl, x_bin, x_call, x_ac, x_an, x_var, List.getElem?_cons_succ, List.getElem?_cons_zero, varR_some, bind_ok, abc, bc, a_bc, nabc, ofOpt_some, then_ok, Bool.false_eq_true, if_false, x_next, seq_nx]
    rw [x_seq, x_set]
    simp only [x_call, x_ac, x_an, x_var, List.getElem?_cons_succ, List.getElem?_cons_zero, varR_some, bind_ok, ta, then_ok, seq_nx, List.set_cons_succ, List.set_cons_zero]
    rw [x_seq, x_sif]
    simp only [x_tOr, x_tBl, x_bin, x_callG, x_call, x_ac, x_an, x_var, List.getElem?_cons_succ, List.getElem?_cons_zero, varR_some, bind_ok, rat, ca, ofOpt_some, neS_same, Bool.false_eq_true, if_false, tta, ra', then_ok, x_next, seq_nx]
    rw [x_seq, x_sif]
    simp only [x_tBl, x_bin, x_call, x_ac, x_an, x_var, List.getElem?_cons_succ, List.getElem?_cons_zero, varR_some, bind_ok, tab, tb, tbta, nabt, ofOpt_some, then_ok, Bool.false_eq_true, if_false, x_next, seq_nx]
    rw [x_seq, x_set]
    simp only [x_call, x_ac, x_an, x_var, List.getElem?_cons_succ, List.getElem?_cons_zero, varR_some, bind_ok, e4, then_ok, seq_nx, List.set_cons_succ, List.set_cons_zero]
    rw [x_seq, x_for, er, then_ok]
    simp only [forLoop, Tgt.d, List.set_cons_succ, List.set_cons_zero, x_seq, x_sif, x_tBl, x_bin, x_callG, x_call, x_ac, x_an, x_var, List.getElem?_cons_succ, List.getElem?_cons_zero, varR_some, bind_ok, co, co2, rx, ofOpt_some, neS_same, then_ok, Bool.false_eq_true, if_false, x_next, seq_nx]
    simp only [x_ret, x_bin, x_callG, x_tup, x_ac, x_an, x_var, List.getElem?_cons_succ, List.getElem?_cons_zero, varR_some, bind_ok, List.length_cons, List.length_nil, lt_sz (show 0 + 1 + 1 + 1 ≤ 16777216 by omega), if_true, three, ofOpt_some, eqS_same, then_ok, seq_rt, x_end2]
  exact e0
end EV

namespace EV
open PySem L2
/-! ### the written cases -/
theorem eq_sm {S : Sto} {d : D} {p : PyData} {n w : Nat} (a : Sm S d p n w) (hn : n ≤ 64) : gEq id S d d = some (.bl true) := by
  have e := toPL_of a
  have sh : SeqAt.shaped p = true := by
    simp only [SeqAt.shaped, a.hc, Bool.true_and, decide_eq_true_eq]
    have := a.hd
    omega
  simp only [gEq, e, sh, Bool.and_self, if_true, SeqAt.eqv_refl p a.hc]
  rfl
theorem sm_any {S : Sto} {m : List (List Int)} (h : ∀ v ∈ m, smallV v) : Sm S (dM m) (PM m) 2 (25001 * m.length) := Sms.tup (Sms.map m fun v hv => sm_dV (h v hv))
theorem ne_any {S : Sto} {m : List (List Int)} (h : ∀ v ∈ m, smallV v) : gNE S (dM m) (dM m) = some (.bl false) := ne_sm (sm_any h) (by omega)
theorem eq_any {S : Sto} {m : List (List Int)} (h : ∀ v ∈ m, smallV v) : gEQ S (dM m) (dM m) = some (.bl true) := eq_sm (sm_any h) (by omega)
theorem ne_V {S : Sto} {v : List Int} (h : smallV v) : gNE S (dV v) (dV v) = some (.bl false) := ne_sm (sm_dV h) (by omega)
theorem ne_loc {S : Sto} {n k w : Nat} {ds : List D} {ps : List PyData} (h : S[n]? = some (.lst ds)) (a : Sms S ds ps k w) (hk : k ≤ 60) : gNE S (.loc n) (.lst ds) = some (.bl false) := by
  have e1 : toPL S (.loc n) = some (.list ps) := by simp only [toPL, h, a.hp, Option.map_some]
  have e2 : toPL S (.lst ds) = some (.list ps) := toPL_of a.lst
  have sh : SeqAt.shaped (.list ps) = true := by
    have b := a.lst
    simp only [SeqAt.shaped, b.hc, Bool.true_and, decide_eq_true_eq]
    have := b.hd
    omega
  have e3 : gEq not S (.loc n) (.lst ds) = some (.bl false) := by
    simp only [gEq, e1, e2, sh, Bool.and_self, if_true, SeqAt.eqv_refl _ a.lst.hc]
    rfl
  exact e3
theorem addT {S : Sto} {x y : List D} (h : x.length + y.length ≤ 16777216) : gAdd S (.tup x) (.tup y) = some (.tup (x ++ y)) := by
  have e : gAddT S (.tup x) (.tup y) = some (.tup (x ++ y)) := by simp [gAddT, lt_sz h]
  have e2 : gAdd S (.tup x) (.tup y) = match gAddT S (.tup x) (.tup y) with | some z => some z | none => gAddL S (.tup x) (.tup y) := rfl
  rw [e2, e]
theorem addV {S : Sto} {x y : List Int} (h : x.length + y.length ≤ 16777216) : gAdd S (dV x) (dV y) = some (dV (x ++ y)) := by
  unfold dV
  rw [addT (by rw [List.length_map, List.length_map]; exact h), List.map_append]
theorem rep_V {S : Sto} {z : Int} {k : Nat} (hk : k ≤ 100000) : gMul S (.tup [.int z]) (.int (k : Int)) = some (dV (List.replicate k z)) := by
  rw [rep_tup hk (by simp only [List.length_singleton]; omega), List.flatten_replicate_singleton]
  unfold dV
  rw [List.map_replicate]
theorem rep_M {S : Sto} {v : List Int} {k : Nat} (hk : k ≤ 100000) : gMul S (.tup [dV v]) (.int (k : Int)) = some (dM (List.replicate k v)) := by
  rw [rep_tup hk (by simp only [List.length_singleton]; omega), List.flatten_replicate_singleton]
  unfold dM
  rw [List.map_replicate]
theorem ix_M {m : List (List Int)} {j : Nat} (h : j < m.length) (S : Sto) : gIx S (dM m) (.int (j : Int)) = some (dV (m.getD j [])) := by
  have h1 : ¬ ((j : Int) < 0) := by omega
  have h2 : (j : Int) < m.length := by omega
  simp [gIx, dM, itemsS, itemsT, L2.atI, ixN, h1, h2, h]
def rows97 : List (List Int) := (List.range 100).map fun j : Nat => [(j : Int) % 97, 7 * (j : Int) % 97, (j : Int) * (j : Int) % 97]
def units : List (List Int) := (List.range 100).map fun j : Nat => List.replicate j 0 ++ [1] ++ List.replicate (99 - j) 0
theorem rows_mat : Mat 97 3 rows97 := ⟨by decide +kernel, by decide +kernel⟩
theorem units_mat : Mat 97 100 units := ⟨by decide +kernel, by decide +kernel⟩
theorem units_prod : prod 97 3 units rows97 = rows97 := by decide +kernel
theorem rows_sum : addv 97 3 [rows97.getD 1 [], rows97.getD 2 [], rows97.getD 3 [], rows97.getD 4 [], rows97.getD 5 [], rows97.getD 6 [], rows97.getD 7 []] = [28, 2, 43] := by decide +kernel
theorem big_comb : ((cols 2 (List.replicate 100 [96, 1])).map fun c => dotp 97 (List.replicate 100 96) c) = [3, 94] := by decide +kernel
theorem big_mat : Mat 97 2 (List.replicate 100 [96, 1]) := ⟨by decide +kernel, by decide +kernel⟩
theorem big_num : (List.replicate 100 (96 : Int)).all (num 97) = true := by decide +kernel
theorem mod5 : isMod 5 = true := by decide +kernel
theorem mod97 : isMod 97 = true := by decide +kernel
theorem mod2 : isMod 2 = true := by decide +kernel
end EV

namespace EV
open PySem L2
/-! ### the law's loops -/
def fInner : FS := sSeq (sSet 5 (eLst (aCons (eCall F_law_take (aCons (eVar 2) (aCons (eC (.int 6)) aNil))) (aCons (eBin gAdd (eC (.int 1)) (eCall F_law_take (aCons (eVar 2) (aCons (eC (.int 5)) aNil)))) (aCons (eBin gAdd (eC (.int 1)) (eCall F_law_take (aCons (eVar 2) (aCons (eC (.int 5)) aNil)))) (aCons (eCall F_law_take (aCons (eVar 2) (aCons (eC (.int 8)) aNil))) aNil)))))) (sSeq (sIf (tNotF (tVal (eCall F_law_products_right (aCons (eVar 2) (aCons (eVar 3) (aCons (eVar 5) aNil)))))) (sSeq (sRet (eC (.bl false))) sNext) sNext) sNext)
def fOuter : FS := sSeq (sSet 2 (eCall F_law_pot (aCons (eVar 0) (aCons (eVar 1) aNil)))) (sSeq (sSet 3 (eCall F_law_modulus (aCons (eVar 2) aNil))) (sSeq (sIf (tNotF (tVal (eCall F_law_sums_right (aCons (eVar 2) (aCons (eVar 3) (aCons (eIfF (tBl (eBin gEQ (eVar 1) (eC (.int 0)))) (eC (.int 100)) (eCall F_law_take (aCons (eVar 2) (aCons (eC (.int 8)) aNil)))) aNil)))))) (sSeq (sRet (eC (.bl false))) sNext) sNext) (sSeq (sFor (iRange1 (eC (.int 3))) (.nm 4) fInner) sNext)))
theorem take_n {S : Sto} {n k : Nat} {m : Nat} (h : PotAt S n k) (hk : k ≤ 1000000) (h0 : 0 < m) (h1 : m < 2 ^ 60) : ∃ (r : Nat) (S' : Sto), F_law_take [.loc n, .int (m : Int)] S = .ok (.int (r : Int)) S' ∧ r < m ∧ Drawn S n (k + 1) S' := by
  obtain ⟨r, S', e, r0, r1, d⟩ := take_d (m := (m : Int)) h hk (by omega) (by omega)
  obtain ⟨q, rfl⟩ := Int.eq_ofNat_of_zero_le r0
  exact ⟨q, S', e, by omega, d⟩
theorem inner_d {S : Sto} {n k : Nat} {p : Int} {o0 o1 o4 o5 : Option D} (hp : isMod p = true) (h : PotAt S n k) (hk : k + 600 ≤ 1000000) :
    ∃ q5 S', fInner [o0, o1, some (.loc n), some (.int p), o4, o5, none, none, none, none] S = .nx [o0, o1, some (.loc n), some (.int p), o4, q5, none, none, none, none] S' ∧ PotAt S' n (k + 600) := by
  obtain ⟨m1, S1, e1, r1, d1⟩ := take_n (m := 6) h (by omega) (by omega) (by omega)
  obtain ⟨m2, S2, e2, r2, d2⟩ := take_n (m := 5) d1.at (by omega) (by omega) (by omega)
  obtain ⟨m3, S3, e3, r3, d3⟩ := take_n (m := 5) d2.at (by omega) (by omega) (by omega)
  obtain ⟨m4, S4, e4, r4, d4⟩ := take_n (m := 8) d3.at (by omega) (by omega) (by omega)
  obtain ⟨S5, e5, d5⟩ := products_d (mo := m1) (l := m2 + 1) (r := m3 + 1) (w := m4) hp (by omega) (by omega) (by omega) (by omega) d4.at (by omega)
  have e1' : F_law_take [.loc n, .int 6] S = .ok (.int (m1 : Int)) S1 := e1
  have e2' : F_law_take [.loc n, .int 5] S1 = .ok (.int (m2 : Int)) S2 := e2
  have e3' : F_law_take [.loc n, .int 5] S2 = .ok (.int (m3 : Int)) S3 := e3
  have e4' : F_law_take [.loc n, .int 8] S3 = .ok (.int (m4 : Int)) S4 := e4
  have c2 : (1 : Int) + (m2 : Int) = ((m2 + 1 : Nat) : Int) := by omega
  have c3 : (1 : Int) + (m3 : Int) = ((m3 + 1 : Nat) : Int) := by omega
  refine ⟨some (.lst [.int (m1 : Int), .int ((m2 + 1 : Nat) : Int), .int ((m3 + 1 : Nat) : Int), .int (m4 : Int)]), S5, ?_, d5.at.up (by omega)⟩
  unfold fInner
  rw [x_seq, x_set]
  simp only [x_lst, x_call, x_ac, x_an, x_bin, x_var, List.getElem?_cons_succ, List.getElem?_cons_zero, varR_some, bind_ok, x_c, e1', e2', e3', e4', x_addI, ofOpt_some, c2, c3, List.length_cons, List.length_nil, lt_sz (show 0 + 1 + 1 + 1 + 1 ≤ 16777216 by omega), if_true, then_ok, seq_nx, List.set_cons_succ, List.set_cons_zero]
  rw [x_seq, x_sif]
  simp only [x_tNot, x_tVal, x_call, x_ac, x_an, x_var, List.getElem?_cons_succ, List.getElem?_cons_zero, varR_some, bind_ok, e5, t_bl, ofOpt_some, Bool.not_true, then_ok, Bool.false_eq_true, if_false, x_next, seq_nx]
theorem outer_d {S : Sto} {ns : List Int} {j : Nat} {o2 o3 o4 o5 : Option D} (hj : j ≤ 8) :
    ∃ q2 q3 q4 q5 S', fOuter [some (.frz (ns.map .int)), some (.int (j : Int)), o2, o3, o4, o5, none, none, none, none] S = .nx [some (.frz (ns.map .int)), some (.int (j : Int)), q2, q3, q4, q5, none, none, none, none] S' := by
  have ep := law_pot_p (ns := ns) (k := j) (by omega) S
  have h0 : PotAt (S ++ [.lst [.int (potA (cellOf ns j)), .int (potB (cellOf ns j) j), .int 0]]) S.length 0 := ⟨_, _, _, get_a rfl, potOk (ns := ns) _ (cell_pos ns j)⟩
  obtain ⟨p, S2, em, hp, d2⟩ := modulus_d h0 (by omega)
  have wd : ∃ (w : Nat) (S3 : Sto), eIfF (tBl (eBin gEQ (eVar 1) (eC (.int 0)))) (eC (.int 100)) (eCall F_law_take (aCons (eVar 2) (aCons (eC (.int 8)) aNil))) [some (.frz (ns.map .int)), some (.int (j : Int)), some (.loc S.length), some (.int p), o4, o5, none, none, none, none] S2 = .ok (.int (w : Int)) S3 ∧ w ≤ 100 ∧ PotAt S3 S.length 2 := by
    by_cases z : j = 0
    · refine ⟨100, S2, ?_, by omega, d2.at.up (by omega)⟩
      subst z
      simp only [x_if, x_tBl, x_bin, x_var, List.getElem?_cons_succ, List.getElem?_cons_zero, varR_some, bind_ok, x_c, eqI, ofOpt_some]
      rfl
    · obtain ⟨w, S3, e, hw, d⟩ := take_n (m := 8) d2.at (by omega) (by omega) (by omega)
      have e' : F_law_take [.loc S.length, .int 8] S2 = .ok (.int (w : Int)) S3 := e
      refine ⟨w, S3, ?_, by omega, d.at⟩
      have zz : decide ((j : Int) = 0) = false := decide_eq_false (by omega)
      simp only [x_if, x_tBl, x_bin, x_var, List.getElem?_cons_succ, List.getElem?_cons_zero, varR_some, bind_ok, x_c, eqI, ofOpt_some, zz, Bool.false_eq_true, if_false, x_call, x_ac, x_an, e']
  obtain ⟨w, S3, ew, hw, h3⟩ := wd
  obtain ⟨S4, es, h4⟩ := sums_d (w := w) hp hw h3 (by omega)
  obtain ⟨a5, S5, i5, h5⟩ := inner_d (o0 := some (.frz (ns.map .int))) (o1 := some (.int (j : Int))) (o4 := some (.int 0)) (o5 := o5) hp h4 (by omega)
  obtain ⟨a6, S6, i6, h6⟩ := inner_d (o0 := some (.frz (ns.map .int))) (o1 := some (.int (j : Int))) (o4 := some (.int 1)) (o5 := a5) hp h5 (by omega)
  obtain ⟨a7, S7, i7, h7⟩ := inner_d (o0 := some (.frz (ns.map .int))) (o1 := some (.int (j : Int))) (o4 := some (.int 2)) (o5 := a6) hp h6 (by omega)
  refine ⟨some (.loc S.length), some (.int p), some (.int 2), a7, S7, ?_⟩
  have er : ∀ ρ, iRange1 (eC (.int 3)) ρ S4 = .ok [.int 0, .int 1, .int 2] S4 := fun ρ => (fun _ => rfl) ()
  unfold fOuter
  rw [x_seq, x_set]
  simp only [x_call, x_ac, x_an, x_var, List.getElem?_cons_succ, List.getElem?_cons_zero, varR_some, bind_ok, ep, then_ok, seq_nx, List.set_cons_succ, List.set_cons_zero]
  rw [x_seq, x_set]
  simp only [x_call, x_ac, x_an, x_var, List.getElem?_cons_succ, List.getElem?_cons_zero, varR_some, bind_ok, em, then_ok, seq_nx, List.set_cons_succ, List.set_cons_zero]
  rw [x_seq, x_sif]
  simp only [x_tNot, x_tVal, x_call, x_ac, x_an, x_var, List.getElem?_cons_succ, List.getElem?_cons_zero, varR_some, bind_ok, ew, es, t_bl, ofOpt_some, Bool.not_true, then_ok, Bool.false_eq_true, if_false, x_next, seq_nx]
  rw [x_seq, x_for, er, then_ok]
  simp only [forLoop, Tgt.d, List.set_cons_succ, List.set_cons_zero, i5, i6, i7, seq_nx, x_next]
theorem outer_loop {ns : List Int} : ∀ (l : List Nat), (∀ j ∈ l, j ≤ 8) → ∀ (S : Sto) (o1 o2 o3 o4 o5 : Option D),
    ∃ q1 q2 q3 q4 q5 S', forLoop (.nm 1) fOuter (l.map fun j : Nat => D.int (j : Int)) [some (.frz (ns.map .int)), o1, o2, o3, o4, o5, none, none, none, none] S = .nx [some (.frz (ns.map .int)), q1, q2, q3, q4, q5, none, none, none, none] S'
  | [], _, S, o1, o2, o3, o4, o5 => ⟨o1, o2, o3, o4, o5, S, rfl⟩
  | j :: l, h, S, o1, o2, o3, o4, o5 => by
    obtain ⟨q2, q3, q4, q5, S1, e⟩ := outer_d (S := S) (ns := ns) (o2 := o2) (o3 := o3) (o4 := o4) (o5 := o5) (h j List.mem_cons_self)
    obtain ⟨p1, p2, p3, p4, p5, S2, e2⟩ := outer_loop (ns := ns) l (fun x hx => h x (List.mem_cons_of_mem _ hx)) S1 (some (.int (j : Int))) q2 q3 q4 q5
    refine ⟨p1, p2, p3, p4, p5, S2, ?_⟩
    rw [List.map_cons]
    unfold forLoop
    simp only [Tgt.d, List.set_cons_succ, List.set_cons_zero, e, e2]
end EV

namespace EV
open PySem L2
theorem smV (v : List Int) (h : (decide (v.length ≤ 1000) && v.all fun x => decide (x.natAbs < 1000000)) = true) : smallV v := by
  simp only [Bool.and_eq_true, decide_eq_true_eq, List.all_eq_true] at h
  exact h
theorem smM (m : List (List Int)) (h : (m.all fun v => decide (v.length ≤ 1000) && v.all fun x => decide (x.natAbs < 1000000)) = true) : ∀ v ∈ m, smallV v := by
  rw [List.all_eq_true] at h
  exact fun v hv => smV v (h v hv)
theorem wr_added (T : Sto) : F_added [.int 5, .tup []] T = .ok (.tup []) T := added_m (v := []) (os := []) (n := 0) mod5 ⟨by decide, by decide⟩ (by omega) T
theorem wr_scaled (T : Sto) : F_scaled [.int 5, .int 3, .tup []] T = .ok (.tup []) T := scaled_v (v := []) mod5 (by decide) (by decide) (by decide) T
theorem wr_dot (T : Sto) : F_dot [.int 5, .tup [], .tup []] T = .ok (.int 0) T := dot_v (a := []) (b := []) mod5 (by decide) (by decide) rfl (by decide) T
theorem wr_comb (T : Sto) : F_combination [.int 5, .int 0, .tup [.tup [], .tup []], .tup [.int 1, .int 4]] T = .ok (.tup []) T := combination_m (w := 0) (m := [[], []]) (f := [1, 4]) mod5 (by omega) ⟨by decide, by decide⟩ (by decide) rfl T
theorem wr_prod (T : Sto) : F_product [.int 5, .int 3, .tup [], .tup []] T = .ok (.tup []) T := product_m (w := 3) (n := 0) (a := []) (b := []) mod5 (by omega) ⟨by decide, by decide⟩ rfl ⟨by decide, by decide⟩ T
theorem wr_prod2 (T : Sto) : F_product [.int 5, .int 2, .tup [.tup [], .tup []], .tup []] T = .ok (dM [[0, 0], [0, 0]]) T := product_m (w := 2) (n := 0) (a := [[], []]) (b := []) mod5 (by omega) ⟨by decide, by decide⟩ rfl ⟨by decide, by decide⟩ T
theorem wr_big (T : Sto) : F_combination [.int 97, .int 2, dM (List.replicate 100 [96, 1]), dV (List.replicate 100 96)] T = .ok (dV [3, 94]) T := by
  have h := combination_m (w := 2) (m := List.replicate 100 [96, 1]) (f := List.replicate 100 96) mod97 (by omega) big_mat big_num (by rw [List.length_replicate, List.length_replicate]) T
  rw [big_comb] at h
  exact h
theorem wr_unit (T : Sto) : F_product [.int 97, .int 3, dM units, dM rows97] T = .ok (dM rows97) T := by
  have h := product_m (w := 3) (n := 100) (a := units) (b := rows97) mod97 (by omega) rows_mat (by decide +kernel) units_mat T
  rw [units_prod] at h
  exact h
theorem rows_len : rows97.length = 100 := by decide +kernel
theorem flat_mat : Mat 97 100 (cols 3 rows97) := rows_mat.cols (by omega) rows_len
theorem wr_flat (T : Sto) : F_transposed [.int 97, .int 3, dM rows97] T = .ok (dM (cols 3 rows97)) T := transposed_m (w := 3) mod97 (by omega) rows_mat T
theorem wr_cols (T : Sto) : F_law_columns [.int 3, dM rows97] T = .ok (dM (cols 3 rows97)) T := law_columns_m (w := 3) (row_len rows_mat) (by rw [rows_len]; omega) (by omega) T
theorem wr_back (T : Sto) : F_transposed [.int 97, .int 100, dM (cols 3 rows97)] T = .ok (dM rows97) T := by
  have h := transposed_m (w := 100) mod97 (by omega) flat_mat T
  rw [cols_cols rows_len fun v hv => (rows_mat.row v hv).1] at h
  exact h
theorem wr_sq (T : Sto) : F_product [.int 97, .int 100, dM rows97, dM (cols 3 rows97)] T = .ok (dM (prod 97 100 rows97 (cols 3 rows97))) T := product_m (w := 100) (n := 3) mod97 (by omega) flat_mat (by simp [cols]) rows_mat T
theorem sq_row (T : Sto) : gIx T (dM (prod 97 100 rows97 (cols 3 rows97))) (.int 99) = some (dV ((prod 97 100 rows97 (cols 3 rows97)).getD 99 [])) := ix_M (j := 99) (by rw [len_prod, rows_len]; omega) T
theorem sq_len (T : Sto) : gLen T [dV ((prod 97 100 rows97 (cols 3 rows97)).getD 99 [])] = some (.int 100) := by
  have h : 99 < (prod 97 100 rows97 (cols 3 rows97)).length := by rw [len_prod, rows_len]; omega
  have e : (prod 97 100 rows97 (cols 3 rows97)).getD 99 [] = (prod 97 100 rows97 (cols 3 rows97))[99] := by simp [h]
  have m := (Mat.prod (p := 97) (w := 100) (n := 3) (a := rows97) (b := cols 3 rows97) (by omega) (by rw [rows_len]; omega)).row _ (List.getElem_mem h)
  rw [len_dV, e, m.1]
  rfl
theorem ix_rows (T : Sto) (j : Nat) (h : j < 100) : gIx T (dM rows97) (.int (j : Int)) = some (dV (rows97.getD j [])) := ix_M (by rw [rows_len]; exact h) T
theorem wr_sum (T : Sto) : F_added [.int 97, dV (rows97.getD 1 []), dV (rows97.getD 2 []), dV (rows97.getD 3 []), dV (rows97.getD 4 []), dV (rows97.getD 5 []), dV (rows97.getD 6 []), dV (rows97.getD 7 [])] T = .ok (dV [28, 2, 43]) T := by
  have h := added_m (p := 97) (n := 3) (v := rows97.getD 1 []) (os := [rows97.getD 2 [], rows97.getD 3 [], rows97.getD 4 [], rows97.getD 5 [], rows97.getD 6 [], rows97.getD 7 []]) mod97 ⟨by decide +kernel, by decide +kernel⟩ (by omega) T
  have e := rows_sum
  unfold addv at e
  rw [e] at h
  exact h
theorem wr_t23 (T : Sto) : F_transposed [.int 2, .int 3, .tup []] T = .ok (dM [[], [], []]) T := transposed_m (w := 3) (m := []) mod2 (by omega) ⟨by decide, by decide⟩ T
theorem wr_t20 (T : Sto) : F_transposed [.int 2, .int 0, dM [[], [], []]] T = .ok (dM []) T := transposed_m (w := 0) (m := [[], [], []]) mod2 (by omega) ⟨by decide, by decide⟩ T
theorem rows_lc {ρ : Env} (hl : ρ.length = 10) (S : Sto) : eCallG gTuple (aCons (eLc (iRange1 (eC (.int 100))) (.nm 9) tYesF (eTup (aCons (eBin gModI (eVar 9) (eC (.int 97))) (aCons (eBin gModI (eBin gMul (eC (.int 7)) (eVar 9)) (eC (.int 97))) (aCons (eBin gModI (eBin gMul (eVar 9) (eVar 9)) (eC (.int 97))) aNil)))) [9]) aNil) ρ S = .ok (dM rows97) S := by
  have h := lc_map (tg := .nm 9) (a := eTup (aCons (eBin gModI (eVar 9) (eC (.int 97))) (aCons (eBin gModI (eBin gMul (eC (.int 7)) (eVar 9)) (eC (.int 97))) (aCons (eBin gModI (eBin gMul (eVar 9) (eVar 9)) (eC (.int 97))) aNil)))) (ρ := wipeD ρ [9]) (S := S)
    (fun j : Nat => D.int (j : Int)) (fun j => dV [(j : Int) % 97, 7 * (j : Int) % 97, (j : Int) * (j : Int) % 97]) (List.range 100) (fun j hj => ⟨(wipeD ρ [9]).set 9 (some (.int (j : Int))), rfl, by
    have hj := List.mem_range.mp hj
    have l1 : 9 < (wipeD ρ [9]).length := by simp [wipeD, hl]
    have g : ((wipeD ρ [9]).set 9 (some (D.int (j : Int))))[9]? = some (some (.int (j : Int))) := List.getElem?_set_self l1
    have m1 : mulOk 7 (j : Int) = true := mul_small (by omega) (by omega)
    have m2 : mulOk (j : Int) (j : Int) = true := mul_small (by omega) (by omega)
    simp only [x_tup, x_ac, x_an, x_bin, x_var, g, varR_some, bind_ok, x_c, x_modI (show (0 : Int) < 97 by omega), x_mulI m1, x_mulI m2, ofOpt_some, List.length_cons, List.length_nil, lt_sz (show 0 + 1 + 1 + 1 ≤ 16777216 by omega), if_true]
    rfl⟩)
  have er : iRange1 (eC (.int 100)) ρ S = .ok ((List.range 100).map fun j : Nat => D.int (j : Int)) S := x_range (w := 100) rfl (b62_n (by omega))
  have hz : sz ((List.range 100).map fun j : Nat => D.int (j : Int)).length = true := lt_sz (by rw [List.length_map, List.length_range]; omega)
  rw [x_callG, x_ac, x_lc, er]
  simp only [bind_ok, hz, if_true, h, x_an, tp_lst, ofOpt_some]
  unfold dM rows97
  rw [List.map_map]
  rfl
theorem units_lc {ρ : Env} (hl : ρ.length = 10) (S : Sto) : eCallG gTuple (aCons (eLc (iRange1 (eC (.int 100))) (.nm 9) tYesF (eBin gAdd (eBin gAdd (eBin gMul (eTup (aCons (eC (.int 0)) aNil)) (eVar 9)) (eTup (aCons (eC (.int 1)) aNil))) (eBin gMul (eTup (aCons (eC (.int 0)) aNil)) (eBin gSubI (eC (.int 99)) (eVar 9)))) [9]) aNil) ρ S = .ok (dM units) S := by
  have h := lc_map (tg := .nm 9) (a := eBin gAdd (eBin gAdd (eBin gMul (eTup (aCons (eC (.int 0)) aNil)) (eVar 9)) (eTup (aCons (eC (.int 1)) aNil))) (eBin gMul (eTup (aCons (eC (.int 0)) aNil)) (eBin gSubI (eC (.int 99)) (eVar 9)))) (ρ := wipeD ρ [9]) (S := S)
    (fun j : Nat => D.int (j : Int)) (fun j => dV (List.replicate j 0 ++ [1] ++ List.replicate (99 - j) 0)) (List.range 100) (fun j hj => ⟨(wipeD ρ [9]).set 9 (some (.int (j : Int))), rfl, by
    have hj := List.mem_range.mp hj
    have l1 : 9 < (wipeD ρ [9]).length := by simp [wipeD, hl]
    have g : ((wipeD ρ [9]).set 9 (some (D.int (j : Int))))[9]? = some (some (.int (j : Int))) := List.getElem?_set_self l1
    have c1 : (99 : Int) - (j : Int) = ((99 - j : Nat) : Int) := by omega
    have one : D.tup [D.int 1] = dV [1] := rfl
    simp only [x_tup, x_ac, x_an, x_bin, x_var, g, varR_some, bind_ok, x_c, x_subI, c1, ofOpt_some, List.length_cons, List.length_nil, lt_sz (show 0 + 1 ≤ 16777216 by omega), if_true, rep_V (show j ≤ 100000 by omega), rep_V (show 99 - j ≤ 100000 by omega), one]
    rw [addV (by simp; omega), ofOpt_some, bind_ok, addV (by simp; omega), ofOpt_some]⟩)
  have er : iRange1 (eC (.int 100)) ρ S = .ok ((List.range 100).map fun j : Nat => D.int (j : Int)) S := x_range (w := 100) rfl (b62_n (by omega))
  have hz : sz ((List.range 100).map fun j : Nat => D.int (j : Int)).length = true := lt_sz (by rw [List.length_map, List.length_range]; omega)
  rw [x_callG, x_ac, x_lc, er]
  simp only [bind_ok, hz, if_true, h, x_an, tp_lst, ofOpt_some]
  unfold dM units
  rw [List.map_map]
  rfl
end EV

namespace EV
open PySem L2
theorem x_max {S : Sto} {i j : Int} : gMax S [.int i, .int j] = some (.int (if j > i then j else i)) := (fun _ => rfl) ()
theorem x_min {S : Sto} {i j : Int} : gMin S [.int i, .int j] = some (.int (if j < i then j else i)) := (fun _ => rfl) ()
theorem turns {ns : List Int} {ρ : Env} (h : ρ[0]? = some (some (.frz (ns.map .int)))) (S : Sto) :
    ∃ K : Nat, K ≤ 8 ∧ iRange1 (eCallG gMax (aCons (eC (.int 1)) (aCons (eCallG gMin (aCons (eC (.int 8)) (aCons (eCallG gLen (aCons (eVar 0) aNil)) aNil))) aNil))) ρ S = .ok ((List.range K).map fun j : Nat => D.int (j : Int)) S := by
  refine ⟨max 1 (min 8 ns.length), by omega, x_range ?_ (b62_n (by omega))⟩
  have e : (if (if ((ns.length : Nat) : Int) < 8 then ((ns.length : Nat) : Int) else 8) > 1 then (if ((ns.length : Nat) : Int) < 8 then ((ns.length : Nat) : Int) else 8) else 1) = ((max 1 (min 8 ns.length) : Nat) : Int) := by
    split <;> split <;> omega
  simp only [x_callG, x_ac, x_an, x_c, x_var, h, varR_some, bind_ok, len_frz, List.length_map, x_min, x_max, ofOpt_some, e]
theorem law_true (ns : List Int) (S : Sto) : ∃ S', F_law [.frz (ns.map .int)] S = .ok (.bl true) S' := by
  obtain ⟨K, hK, er⟩ := turns (ns := ns) (ρ := [some (.frz (ns.map .int)), none, none, none, none, none, none, none, none, none]) rfl S
  obtain ⟨q1, q2, q3, q4, q5, T, el⟩ := outer_loop (ns := ns) (List.range K) (fun j hj => by have := List.mem_range.mp hj; omega) S none none none none none
  have st1 : ∃ T2, T2 = T ++ [.lst [.tup [], .tup [], .int 0, .tup [], .tup []]] := ⟨_, rfl⟩
  obtain ⟨T2, hT2⟩ := st1
  have f5 : Sms T2 [.tup [], .tup [], .int 0, .tup [], .tup []] [.tuple [], .tuple [], .int 0, .tuple [], .tuple []] 1 (0 + 1 + (0 + 1 + (24 + 1 + (0 + 1 + (0 + 1 + 0))))) :=
    Sms.cons (Sms.tup Sms.nil) (Sms.cons (Sms.tup Sms.nil) (Sms.cons (Sm.int (by decide)) (Sms.cons (Sms.tup Sms.nil) (Sms.cons (Sms.tup Sms.nil) Sms.nil))))
  have nel : gNE T2 (.loc T.length) (.lst [.tup [], .tup [], .int 0, .tup [], .tup []]) = some (.bl false) := ne_loc (by rw [hT2]; exact get_a rfl) f5 (by omega)
  have i1 : gIx T2 (dM rows97) (.int 1) = some (dV (rows97.getD 1 [])) := ix_rows T2 1 (by omega)
  have i2 : gIx T2 (dM rows97) (.int 2) = some (dV (rows97.getD 2 [])) := ix_rows T2 2 (by omega)
  have i3 : gIx T2 (dM rows97) (.int 3) = some (dV (rows97.getD 3 [])) := ix_rows T2 3 (by omega)
  have i4 : gIx T2 (dM rows97) (.int 4) = some (dV (rows97.getD 4 [])) := ix_rows T2 4 (by omega)
  have i5 : gIx T2 (dM rows97) (.int 5) = some (dV (rows97.getD 5 [])) := ix_rows T2 5 (by omega)
  have i6 : gIx T2 (dM rows97) (.int 6) = some (dV (rows97.getD 6 [])) := ix_rows T2 6 (by omega)
  have i7 : gIx T2 (dM rows97) (.int 7) = some (dV (rows97.getD 7 [])) := ix_rows T2 7 (by omega)
  have r1 : gMul T2 (.tup [D.tup [.int 96, .int 1]]) (.int 100) = some (dM (List.replicate 100 [96, 1])) := rep_M (v := [96, 1]) (k := 100) (by omega)
  have r2 : gMul T2 (.tup [.int 96]) (.int 100) = some (dV (List.replicate 100 96)) := rep_V (k := 100) (by omega)
  have r3 : gMul T2 (.tup [D.tup []]) (.int 3) = some (dM [[], [], []]) := rep_M (v := []) (k := 3) (by omega)
  have n1 : gNE T2 (dM [[0, 0], [0, 0]]) (.tup [.tup [.int 0, .int 0], .tup [.int 0, .int 0]]) = some (.bl false) := ne_any (m := [[0, 0], [0, 0]]) (smM _ (by decide))
  have n2 : gNE T2 (dV [3, 94]) (.tup [.int ((100 : Int) % 97), .int ((96 : Int) * 100 % 97)]) = some (.bl false) := ne_V (v := [3, 94]) (smV _ (by decide))
  have n3 : gNE T2 (dM rows97) (dM rows97) = some (.bl false) := ne_any (smM _ (by decide +kernel))
  have n4 : gNE T2 (dM (cols 3 rows97)) (dM (cols 3 rows97)) = some (.bl false) := ne_any (smM _ (by decide +kernel))
  have n5 : gNE T2 (dV [28, 2, 43]) (.tup [.int 28, .int 2, .int ((140 : Int) % 97)]) = some (.bl false) := ne_V (v := [28, 2, 43]) (smV _ (by decide))
  have q23 : gEQ T2 (dM [[], [], []]) (.tup [.tup [], .tup [], .tup []]) = some (.bl true) := eq_any (m := [[], [], []]) (smM _ (by decide))
  have q20 : gEQ T2 (dM []) (.tup []) = some (.bl true) := eq_any (m := []) (smM _ (by decide))
  have m7 : mulOk 96 100 = true := by decide
  refine ⟨T2, ?_⟩
  have e0 : endD (s_law [some (.frz (ns.map .int)), none, none, none, none, none, none, none, none, none] S) = .ok (.bl true) T2 := by
    rw [e_law]
    rw [x_seq, x_for, er, then_ok]
    unfold fOuter fInner at el
    rw [el, seq_nx]
    rw [x_seq, x_set]
    simp only [x_loc, x_call, x_tup, x_ac, x_an, x_c, bind_ok, List.length_cons, List.length_nil, lt_sz (show 0 ≤ 16777216 by omega), lt_sz (show 0 + 1 + 1 ≤ 16777216 by omega), if_true, wr_added, wr_scaled, wr_dot, wr_comb, lt_sz (show 0 + 1 + 1 + 1 + 1 ≤ 16777216 by omega), then_ok, seq_nx, List.set_cons_succ, List.set_cons_zero]
    rw [x_seq, x_drop]
    rw [app_loc (n := T.length) (v := .tup []) (S2 := T ++ [.lst [.tup [], .tup [], .int 0, .tup []]]) (v_at rfl) (by simp only [x_call, x_tup, x_ac, x_an, x_c, bind_ok, List.length_nil, lt_sz (show 0 ≤ 16777216 by omega), if_true, wr_prod]) (get_a rfl) (by simp)]
    rw [then_ok, set_a rfl, seq_nx]
    rw [show T ++ [.lst ([D.tup [], .tup [], .int 0, .tup []] ++ [.tup []])] = T2 from hT2.symm]
    rw [x_seq, x_sif]
    simp only [x_tOr, x_tBl, x_bin, x_var, List.getElem?_cons_succ, List.getElem?_cons_zero, varR_some, x_lst, x_call, x_tup, x_ac, x_an, x_c, bind_ok, List.length_cons, List.length_nil, lt_sz (show 0 ≤ 16777216 by omega), lt_sz (show 0 + 1 + 1 ≤ 16777216 by omega), lt_sz (show 0 + 1 + 1 + 1 + 1 + 1 ≤ 16777216 by omega), if_true, nel, ofOpt_some, Bool.false_eq_true, if_false, wr_prod2, n1, then_ok, x_next, seq_nx]
    rw [x_seq, x_sif]
    simp only [x_tBl, x_bin, x_call, x_tup, x_ac, x_an, x_c, bind_ok, List.length_cons, List.length_nil, lt_sz (show 0 + 1 ≤ 16777216 by omega), lt_sz (show 0 + 1 + 1 ≤ 16777216 by omega), if_true, r1, r2, ofOpt_some, wr_big, x_modI (show (0 : Int) < 97 by omega), x_mulI m7, n2, Bool.false_eq_true, if_false, then_ok, x_next, seq_nx]
    rw [x_seq, x_set, rows_lc (by rfl), then_ok, seq_nx]
    simp only [List.set_cons_succ, List.set_cons_zero]
    rw [x_seq, x_sif, x_tBl, x_bin, x_call, x_ac, x_c, bind_ok, x_ac, x_c, bind_ok, x_ac, units_lc (by rfl), bind_ok]
    simp only [x_var, List.getElem?_cons_succ, List.getElem?_cons_zero, varR_some, x_ac, x_an, x_c, bind_ok, wr_unit, n3, ofOpt_some, Bool.false_eq_true, if_false, then_ok, x_next, seq_nx]
    rw [x_seq, x_set]
    simp only [x_var, List.getElem?_cons_succ, List.getElem?_cons_zero, varR_some, x_call, x_ac, x_an, x_c, bind_ok, wr_flat, then_ok, seq_nx, List.set_cons_succ, List.set_cons_zero]
    rw [x_seq, x_sif]
    simp only [x_tOr, x_tBl, x_bin, x_var, List.getElem?_cons_succ, List.getElem?_cons_zero, varR_some, x_call, x_ac, x_an, x_c, bind_ok, wr_cols, n4, ofOpt_some, Bool.false_eq_true, if_false, wr_back, n3, then_ok, x_next, seq_nx]
    rw [x_seq, x_sif]
    simp only [x_tBl, x_bin, x_var, List.getElem?_cons_succ, List.getElem?_cons_zero, varR_some, x_call, x_callG, x_ac, x_an, x_c, bind_ok, wr_sq, sq_row, ofOpt_some, sq_len, eqI, decide_true, Bool.not_true, Bool.false_eq_true, if_false, then_ok, x_next, seq_nx]
    rw [x_seq, x_sif]
    simp only [x_tBl, x_bin, x_var, List.getElem?_cons_succ, List.getElem?_cons_zero, varR_some, x_call, x_tup, x_ac, x_an, x_c, bind_ok, i1, i2, i3, i4, i5, i6, i7, ofOpt_some, wr_sum, List.length_cons, List.length_nil, lt_sz (show 0 + 1 + 1 + 1 ≤ 16777216 by omega), if_true, x_modI (show (0 : Int) < 97 by omega), n5, Bool.false_eq_true, if_false, then_ok, x_next, seq_nx]
    rw [x_seq, x_ret]
    simp only [x_and, x_bin, x_call, x_tup, x_ac, x_an, x_c, bind_ok, List.length_cons, List.length_nil, lt_sz (show 0 ≤ 16777216 by omega), lt_sz (show 0 + 1 ≤ 16777216 by omega), lt_sz (show 0 + 1 + 1 + 1 ≤ 16777216 by omega), if_true, wr_t23, q23, ofOpt_some, t_bl, r3, wr_t20, q20, then_ok, seq_rt, x_end2]
  exact e0
end EV

namespace EV
open PySem L2
structure Md (K : PySem.W.Frag) (mg : Str → Option Value) : Prop where
  bis : ∀ x ∈ BIS, mg x = none
  kon : ∀ p ∈ KON, ∃ u, mg p.1 = some u ∧ RelV p.2 u
  a_multiple : ∃ f, DefAt K mg "multiple" b_multiple f
  a_dot_product : ∃ f, DefAt K mg "dot_product" b_dot_product f
  a_columns_of : ∃ f, DefAt K mg "columns_of" b_columns_of f
  a_is_int : ∃ f, DefAt K mg "is_int" b_is_int f
  a_law_pot : ∃ f, DefAt K mg "_law_pot" b_law_pot f
  a_law_take : ∃ f, DefAt K mg "_law_take" b_law_take f
  a_law_combined : ∃ f, DefAt K mg "_law_combined" b_law_combined f
  a_law_columns : ∃ f, DefAt K mg "_law_columns" b_law_columns f
  a_combined : ∃ f, DefAt K mg "combined" b_combined f
  a_is_modulus : ∃ f, DefAt K mg "is_modulus" b_is_modulus f
  a_is_number : ∃ f, DefAt K mg "is_number" b_is_number f
  a_check_width : ∃ f, DefAt K mg "check_width" b_check_width f
  a_law_modulus : ∃ f, DefAt K mg "_law_modulus" b_law_modulus f
  a_law_vector : ∃ f, DefAt K mg "_law_vector" b_law_vector f
  a_are_numbers : ∃ f, DefAt K mg "are_numbers" b_are_numbers f
  a_check_modulus : ∃ f, DefAt K mg "check_modulus" b_check_modulus f
  a_check_number : ∃ f, DefAt K mg "check_number" b_check_number f
  a_law_matrix : ∃ f, DefAt K mg "_law_matrix" b_law_matrix f
  a_are_vectors : ∃ f, DefAt K mg "are_vectors" b_are_vectors f
  a_check_vector : ∃ f, DefAt K mg "check_vector" b_check_vector f
  a_check_vector_of : ∃ f, DefAt K mg "check_vector_of" b_check_vector_of f
  a_check_matrix : ∃ f, DefAt K mg "check_matrix" b_check_matrix f
  a_scaled : ∃ f, DefAt K mg "scaled" b_scaled f
  a_added : ∃ f, DefAt K mg "added" b_added f
  a_dot : ∃ f, DefAt K mg "dot" b_dot f
  a_combination : ∃ f, DefAt K mg "combination" b_combination f
  a_product : ∃ f, DefAt K mg "product" b_product f
  a_transposed : ∃ f, DefAt K mg "transposed" b_transposed f
  a_law_sums_right : ∃ f, DefAt K mg "_law_sums_right" b_law_sums_right f
  a_law_products_right : ∃ f, DefAt K mg "_law_products_right" b_law_products_right f
  a_law : ∃ f, DefAt K mg "law" b_law f
section
variable {P : Program} {w : World} {K : PySem.W.Frag} {mg : Str → Option Value} {base : Heap}
theorem g_multiple (M : Md K mg) {f : Addr} (d : DefAt K mg "multiple" b_multiple f) : FnG P w K mg base (L2.CX P w) 1 f (spD K F_multiple) := by
  exact fnF (ps := ["modulus", "number", "vector"]) d rfl ⟨rfl, rfl, rfl, by decide +kernel, rfl, by decide +kernel, by decide +kernel⟩ rfl (fun _ _ _ _ _ _ us hl => match us, hl with | [_, _, _], _ => rfl) ⟨M.bis, M.kon, all_nil⟩ (some_of w_multiple)
theorem g_dot_product (M : Md K mg) {f : Addr} (d : DefAt K mg "dot_product" b_dot_product f) : FnG P w K mg base (L2.CX P w) 1 f (spD K F_dot_product) := by
  exact fnF (ps := ["modulus", "one", "other"]) d rfl ⟨rfl, rfl, rfl, by decide +kernel, rfl, by decide +kernel, by decide +kernel⟩ rfl (fun _ _ _ _ _ _ us hl => match us, hl with | [_, _, _], _ => rfl) ⟨M.bis, M.kon, all_nil⟩ (some_of w_dot_product)
theorem g_columns_of (M : Md K mg) {f : Addr} (d : DefAt K mg "columns_of" b_columns_of f) : FnG P w K mg base (L2.CX P w) 1 f (spD K F_columns_of) := by
  exact fnF (ps := ["width", "matrix"]) d rfl ⟨rfl, rfl, rfl, by decide +kernel, rfl, by decide +kernel, by decide +kernel⟩ rfl (fun _ _ _ _ _ _ us hl => match us, hl with | [_, _], _ => rfl) ⟨M.bis, M.kon, all_nil⟩ (some_of w_columns_of)
theorem g_is_int (M : Md K mg) {f : Addr} (d : DefAt K mg "is_int" b_is_int f) : FnG P w K mg base (L2.CX P w) 1 f (spD K F_is_int) := by
  exact fnF (ps := ["value"]) d rfl ⟨rfl, rfl, rfl, by decide +kernel, rfl, by decide +kernel, by decide +kernel⟩ rfl (fun _ _ _ _ _ _ us hl => match us, hl with | [_], _ => rfl) ⟨M.bis, M.kon, all_nil⟩ (some_of w_is_int)
theorem g_law_pot (M : Md K mg) {f : Addr} (d : DefAt K mg "_law_pot" b_law_pot f) : FnG P w K mg base (L2.CX P w) 1 f (spD K F_law_pot) := by
  exact fnF (ps := ["_law_script", "_law_k"]) d rfl ⟨rfl, rfl, rfl, by decide +kernel, rfl, by decide +kernel, by decide +kernel⟩ rfl (fun _ _ _ _ _ _ us hl => match us, hl with | [_, _], _ => rfl) ⟨M.bis, M.kon, all_nil⟩ (some_of w_law_pot)
theorem g_law_take (M : Md K mg) {f : Addr} (d : DefAt K mg "_law_take" b_law_take f) : FnG P w K mg base (L2.CX P w) 1 f (spD K F_law_take) := by
  exact fnF (ps := ["_law_pot_here", "_law_number"]) d rfl ⟨rfl, rfl, rfl, by decide +kernel, rfl, by decide +kernel, by decide +kernel⟩ rfl (fun _ _ _ _ _ _ us hl => match us, hl with | [_, _], _ => rfl) ⟨M.bis, M.kon, all_nil⟩ (some_of w_law_take)
theorem g_law_combined (M : Md K mg) {f : Addr} (d : DefAt K mg "_law_combined" b_law_combined f) : FnG P w K mg base (L2.CX P w) 1 f (spD K F_law_combined) := by
  exact fnF (ps := ["_law_modulus_here", "_law_width", "_law_vectors", "_law_shares"]) d rfl ⟨rfl, rfl, rfl, by decide +kernel, rfl, by decide +kernel, by decide +kernel⟩ rfl (fun _ _ _ _ _ _ us hl => match us, hl with | [_, _, _, _], _ => rfl) ⟨M.bis, M.kon, all_nil⟩ (some_of w_law_combined)
theorem g_law_columns (M : Md K mg) {f : Addr} (d : DefAt K mg "_law_columns" b_law_columns f) : FnG P w K mg base (L2.CX P w) 1 f (spD K F_law_columns) := by
  exact fnF (ps := ["_law_width", "_law_rows"]) d rfl ⟨rfl, rfl, rfl, by decide +kernel, rfl, by decide +kernel, by decide +kernel⟩ rfl (fun _ _ _ _ _ _ us hl => match us, hl with | [_, _], _ => rfl) ⟨M.bis, M.kon, all_nil⟩ (some_of w_law_columns)
theorem g_combined (M : Md K mg) {f : Addr} (d : DefAt K mg "combined" b_combined f) : FnG P w K mg base (L2.CX P w) 2 f (spD K F_combined) := by
  obtain ⟨f_dot_product, d_dot_product⟩ := M.a_dot_product
  obtain ⟨f_columns_of, d_columns_of⟩ := M.a_columns_of
  exact fnF (ps := ["modulus", "width", "vectors", "factors"]) d rfl ⟨rfl, rfl, rfl, by decide +kernel, rfl, by decide +kernel, by decide +kernel⟩ rfl (fun _ _ _ _ _ _ us hl => match us, hl with | [_, _, _, _], _ => rfl) ⟨M.bis, M.kon, all_cons (defs_at d_dot_product rfl (g_dot_product M d_dot_product) (by decide)) (all_cons (defs_at d_columns_of rfl (g_columns_of M d_columns_of) (by decide)) (all_nil))⟩ (some_of w_combined)
theorem g_is_modulus (M : Md K mg) {f : Addr} (d : DefAt K mg "is_modulus" b_is_modulus f) : FnG P w K mg base (L2.CX P w) 2 f (spD K F_is_modulus) := by
  obtain ⟨f_is_int, d_is_int⟩ := M.a_is_int
  exact fnF (ps := ["value"]) d rfl ⟨rfl, rfl, rfl, by decide +kernel, rfl, by decide +kernel, by decide +kernel⟩ rfl (fun _ _ _ _ _ _ us hl => match us, hl with | [_], _ => rfl) ⟨M.bis, M.kon, all_cons (defs_at d_is_int rfl (g_is_int M d_is_int) (by decide)) (all_nil)⟩ (some_of w_is_modulus)
theorem g_is_number (M : Md K mg) {f : Addr} (d : DefAt K mg "is_number" b_is_number f) : FnG P w K mg base (L2.CX P w) 2 f (spD K F_is_number) := by
  obtain ⟨f_is_int, d_is_int⟩ := M.a_is_int
  exact fnF (ps := ["modulus", "value"]) d rfl ⟨rfl, rfl, rfl, by decide +kernel, rfl, by decide +kernel, by decide +kernel⟩ rfl (fun _ _ _ _ _ _ us hl => match us, hl with | [_, _], _ => rfl) ⟨M.bis, M.kon, all_cons (defs_at d_is_int rfl (g_is_int M d_is_int) (by decide)) (all_nil)⟩ (some_of w_is_number)
theorem g_check_width (M : Md K mg) {f : Addr} (d : DefAt K mg "check_width" b_check_width f) : FnG P w K mg base (L2.CX P w) 2 f (spD K F_check_width) := by
  obtain ⟨f_is_int, d_is_int⟩ := M.a_is_int
  exact fnF (ps := ["width"]) d rfl ⟨rfl, rfl, rfl, by decide +kernel, rfl, by decide +kernel, by decide +kernel⟩ rfl (fun _ _ _ _ _ _ us hl => match us, hl with | [_], _ => rfl) ⟨M.bis, M.kon, all_cons (defs_at d_is_int rfl (g_is_int M d_is_int) (by decide)) (all_nil)⟩ (some_of w_check_width)
theorem g_law_modulus (M : Md K mg) {f : Addr} (d : DefAt K mg "_law_modulus" b_law_modulus f) : FnG P w K mg base (L2.CX P w) 2 f (spD K F_law_modulus) := by
  obtain ⟨f_law_take, d_law_take⟩ := M.a_law_take
  exact fnF (ps := ["_law_pot_here"]) d rfl ⟨rfl, rfl, rfl, by decide +kernel, rfl, by decide +kernel, by decide +kernel⟩ rfl (fun _ _ _ _ _ _ us hl => match us, hl with | [_], _ => rfl) ⟨M.bis, M.kon, all_cons (defs_at d_law_take rfl (g_law_take M d_law_take) (by decide)) (all_nil)⟩ (some_of w_law_modulus)
theorem g_law_vector (M : Md K mg) {f : Addr} (d : DefAt K mg "_law_vector" b_law_vector f) : FnG P w K mg base (L2.CX P w) 2 f (spD K F_law_vector) := by
  obtain ⟨f_law_take, d_law_take⟩ := M.a_law_take
  exact fnF (ps := ["_law_pot_here", "_law_modulus_here", "_law_size"]) d rfl ⟨rfl, rfl, rfl, by decide +kernel, rfl, by decide +kernel, by decide +kernel⟩ rfl (fun _ _ _ _ _ _ us hl => match us, hl with | [_, _, _], _ => rfl) ⟨M.bis, M.kon, all_cons (defs_at d_law_take rfl (g_law_take M d_law_take) (by decide)) (all_nil)⟩ (some_of w_law_vector)
theorem g_are_numbers (M : Md K mg) {f : Addr} (d : DefAt K mg "are_numbers" b_are_numbers f) : FnG P w K mg base (L2.CX P w) 3 f (spD K F_are_numbers) := by
  obtain ⟨f_is_number, d_is_number⟩ := M.a_is_number
  exact fnF (ps := ["modulus", "value"]) d rfl ⟨rfl, rfl, rfl, by decide +kernel, rfl, by decide +kernel, by decide +kernel⟩ rfl (fun _ _ _ _ _ _ us hl => match us, hl with | [_, _], _ => rfl) ⟨M.bis, M.kon, all_cons (defs_at d_is_number rfl (g_is_number M d_is_number) (by decide)) (all_nil)⟩ (some_of w_are_numbers)
theorem g_check_modulus (M : Md K mg) {f : Addr} (d : DefAt K mg "check_modulus" b_check_modulus f) : FnG P w K mg base (L2.CX P w) 3 f (spD K F_check_modulus) := by
  obtain ⟨f_is_modulus, d_is_modulus⟩ := M.a_is_modulus
  exact fnF (ps := ["modulus"]) d rfl ⟨rfl, rfl, rfl, by decide +kernel, rfl, by decide +kernel, by decide +kernel⟩ rfl (fun _ _ _ _ _ _ us hl => match us, hl with | [_], _ => rfl) ⟨M.bis, M.kon, all_cons (defs_at d_is_modulus rfl (g_is_modulus M d_is_modulus) (by decide)) (all_nil)⟩ (some_of w_check_modulus)
theorem g_check_number (M : Md K mg) {f : Addr} (d : DefAt K mg "check_number" b_check_number f) : FnG P w K mg base (L2.CX P w) 3 f (spD K F_check_number) := by
  obtain ⟨f_is_number, d_is_number⟩ := M.a_is_number
  exact fnF (ps := ["modulus", "number"]) d rfl ⟨rfl, rfl, rfl, by decide +kernel, rfl, by decide +kernel, by decide +kernel⟩ rfl (fun _ _ _ _ _ _ us hl => match us, hl with | [_, _], _ => rfl) ⟨M.bis, M.kon, all_cons (defs_at d_is_number rfl (g_is_number M d_is_number) (by decide)) (all_nil)⟩ (some_of w_check_number)
theorem g_law_matrix (M : Md K mg) {f : Addr} (d : DefAt K mg "_law_matrix" b_law_matrix f) : FnG P w K mg base (L2.CX P w) 3 f (spD K F_law_matrix) := by
  obtain ⟨f_law_vector, d_law_vector⟩ := M.a_law_vector
  exact fnF (ps := ["_law_pot_here", "_law_modulus_here", "_law_width", "_law_many"]) d rfl ⟨rfl, rfl, rfl, by decide +kernel, rfl, by decide +kernel, by decide +kernel⟩ rfl (fun _ _ _ _ _ _ us hl => match us, hl with | [_, _, _, _], _ => rfl) ⟨M.bis, M.kon, all_cons (defs_at d_law_vector rfl (g_law_vector M d_law_vector) (by decide)) (all_nil)⟩ (some_of w_law_matrix)
theorem g_are_vectors (M : Md K mg) {f : Addr} (d : DefAt K mg "are_vectors" b_are_vectors f) : FnG P w K mg base (L2.CX P w) 4 f (spD K F_are_vectors) := by
  obtain ⟨f_are_numbers, d_are_numbers⟩ := M.a_are_numbers
  exact fnF (ps := ["modulus", "width", "value"]) d rfl ⟨rfl, rfl, rfl, by decide +kernel, rfl, by decide +kernel, by decide +kernel⟩ rfl (fun _ _ _ _ _ _ us hl => match us, hl with | [_, _, _], _ => rfl) ⟨M.bis, M.kon, all_cons (defs_at d_are_numbers rfl (g_are_numbers M d_are_numbers) (by decide)) (all_nil)⟩ (some_of w_are_vectors)
theorem g_check_vector (M : Md K mg) {f : Addr} (d : DefAt K mg "check_vector" b_check_vector f) : FnG P w K mg base (L2.CX P w) 4 f (spD K F_check_vector) := by
  obtain ⟨f_are_numbers, d_are_numbers⟩ := M.a_are_numbers
  exact fnF (ps := ["modulus", "vector"]) d rfl ⟨rfl, rfl, rfl, by decide +kernel, rfl, by decide +kernel, by decide +kernel⟩ rfl (fun _ _ _ _ _ _ us hl => match us, hl with | [_, _], _ => rfl) ⟨M.bis, M.kon, all_cons (defs_at d_are_numbers rfl (g_are_numbers M d_are_numbers) (by decide)) (all_nil)⟩ (some_of w_check_vector)
theorem g_check_vector_of (M : Md K mg) {f : Addr} (d : DefAt K mg "check_vector_of" b_check_vector_of f) : FnG P w K mg base (L2.CX P w) 5 f (spD K F_check_vector_of) := by
  obtain ⟨f_check_vector, d_check_vector⟩ := M.a_check_vector
  exact fnF (ps := ["modulus", "length", "vector"]) d rfl ⟨rfl, rfl, rfl, by decide +kernel, rfl, by decide +kernel, by decide +kernel⟩ rfl (fun _ _ _ _ _ _ us hl => match us, hl with | [_, _, _], _ => rfl) ⟨M.bis, M.kon, all_cons (defs_at d_check_vector rfl (g_check_vector M d_check_vector) (by decide)) (all_nil)⟩ (some_of w_check_vector_of)
theorem g_check_matrix (M : Md K mg) {f : Addr} (d : DefAt K mg "check_matrix" b_check_matrix f) : FnG P w K mg base (L2.CX P w) 5 f (spD K F_check_matrix) := by
  obtain ⟨f_are_vectors, d_are_vectors⟩ := M.a_are_vectors
  exact fnF (ps := ["modulus", "width", "matrix"]) d rfl ⟨rfl, rfl, rfl, by decide +kernel, rfl, by decide +kernel, by decide +kernel⟩ rfl (fun _ _ _ _ _ _ us hl => match us, hl with | [_, _, _], _ => rfl) ⟨M.bis, M.kon, all_cons (defs_at d_are_vectors rfl (g_are_vectors M d_are_vectors) (by decide)) (all_nil)⟩ (some_of w_check_matrix)
theorem g_scaled (M : Md K mg) {f : Addr} (d : DefAt K mg "scaled" b_scaled f) : FnG P w K mg base (L2.CX P w) 5 f (spD K F_scaled) := by
  obtain ⟨f_check_modulus, d_check_modulus⟩ := M.a_check_modulus
  obtain ⟨f_check_number, d_check_number⟩ := M.a_check_number
  obtain ⟨f_check_vector, d_check_vector⟩ := M.a_check_vector
  obtain ⟨f_multiple, d_multiple⟩ := M.a_multiple
  exact fnF (ps := ["modulus", "number", "vector"]) d rfl ⟨rfl, rfl, rfl, by decide +kernel, rfl, by decide +kernel, by decide +kernel⟩ rfl (fun _ _ _ _ _ _ us hl => match us, hl with | [_, _, _], _ => rfl) ⟨M.bis, M.kon, all_cons (defs_at d_check_modulus rfl (g_check_modulus M d_check_modulus) (by decide)) (all_cons (defs_at d_check_number rfl (g_check_number M d_check_number) (by decide)) (all_cons (defs_at d_check_vector rfl (g_check_vector M d_check_vector) (by decide)) (all_cons (defs_at d_multiple rfl (g_multiple M d_multiple) (by decide)) (all_nil))))⟩ (some_of w_scaled)
theorem g_added (M : Md K mg) {f : Addr} (d : DefAt K mg "added" b_added f) : FnG P w K mg base (L2.CX P w) 6 f (spD K F_added) := by
  obtain ⟨f_check_modulus, d_check_modulus⟩ := M.a_check_modulus
  obtain ⟨f_check_vector, d_check_vector⟩ := M.a_check_vector
  obtain ⟨f_columns_of, d_columns_of⟩ := M.a_columns_of
  obtain ⟨f_check_vector_of, d_check_vector_of⟩ := M.a_check_vector_of
  exact fnFs (ps := ["modulus", "vector"]) (pv := "others") d rfl ⟨rfl, rfl, rfl, by decide +kernel, rfl, by decide +kernel, by decide +kernel⟩ rfl (fun kV doc pm an cdv ct => StX.bind_star2 (B := fun us => bindArgs (PySem.W.fnOf "added" "added" (defArgs b_added) (defBody b_added) (defScope b_added) .none kV doc pm an cdv ct) ⟨us, []⟩) (fun a0 a1 => rfl) (fun a0 a1 r rs => rfl)) ⟨M.bis, M.kon, all_cons (defs_at d_check_modulus rfl (g_check_modulus M d_check_modulus) (by decide)) (all_cons (defs_at d_check_vector rfl (g_check_vector M d_check_vector) (by decide)) (all_cons (defs_at d_columns_of rfl (g_columns_of M d_columns_of) (by decide)) (all_cons (defs_at d_check_vector_of rfl (g_check_vector_of M d_check_vector_of) (by decide)) (all_nil))))⟩ (some_of w_added)
theorem g_dot (M : Md K mg) {f : Addr} (d : DefAt K mg "dot" b_dot f) : FnG P w K mg base (L2.CX P w) 6 f (spD K F_dot) := by
  obtain ⟨f_check_modulus, d_check_modulus⟩ := M.a_check_modulus
  obtain ⟨f_check_vector, d_check_vector⟩ := M.a_check_vector
  obtain ⟨f_check_vector_of, d_check_vector_of⟩ := M.a_check_vector_of
  obtain ⟨f_dot_product, d_dot_product⟩ := M.a_dot_product
  exact fnF (ps := ["modulus", "one", "other"]) d rfl ⟨rfl, rfl, rfl, by decide +kernel, rfl, by decide +kernel, by decide +kernel⟩ rfl (fun _ _ _ _ _ _ us hl => match us, hl with | [_, _, _], _ => rfl) ⟨M.bis, M.kon, all_cons (defs_at d_check_modulus rfl (g_check_modulus M d_check_modulus) (by decide)) (all_cons (defs_at d_check_vector rfl (g_check_vector M d_check_vector) (by decide)) (all_cons (defs_at d_check_vector_of rfl (g_check_vector_of M d_check_vector_of) (by decide)) (all_cons (defs_at d_dot_product rfl (g_dot_product M d_dot_product) (by decide)) (all_nil))))⟩ (some_of w_dot)
theorem g_combination (M : Md K mg) {f : Addr} (d : DefAt K mg "combination" b_combination f) : FnG P w K mg base (L2.CX P w) 6 f (spD K F_combination) := by
  obtain ⟨f_check_modulus, d_check_modulus⟩ := M.a_check_modulus
  obtain ⟨f_check_width, d_check_width⟩ := M.a_check_width
  obtain ⟨f_check_matrix, d_check_matrix⟩ := M.a_check_matrix
  obtain ⟨f_check_vector_of, d_check_vector_of⟩ := M.a_check_vector_of
  obtain ⟨f_combined, d_combined⟩ := M.a_combined
  exact fnF (ps := ["modulus", "width", "vectors", "factors"]) d rfl ⟨rfl, rfl, rfl, by decide +kernel, rfl, by decide +kernel, by decide +kernel⟩ rfl (fun _ _ _ _ _ _ us hl => match us, hl with | [_, _, _, _], _ => rfl) ⟨M.bis, M.kon, all_cons (defs_at d_check_modulus rfl (g_check_modulus M d_check_modulus) (by decide)) (all_cons (defs_at d_check_width rfl (g_check_width M d_check_width) (by decide)) (all_cons (defs_at d_check_matrix rfl (g_check_matrix M d_check_matrix) (by decide)) (all_cons (defs_at d_check_vector_of rfl (g_check_vector_of M d_check_vector_of) (by decide)) (all_cons (defs_at d_combined rfl (g_combined M d_combined) (by decide)) (all_nil)))))⟩ (some_of w_combination)
theorem g_product (M : Md K mg) {f : Addr} (d : DefAt K mg "product" b_product f) : FnG P w K mg base (L2.CX P w) 6 f (spD K F_product) := by
  obtain ⟨f_check_modulus, d_check_modulus⟩ := M.a_check_modulus
  obtain ⟨f_check_width, d_check_width⟩ := M.a_check_width
  obtain ⟨f_check_matrix, d_check_matrix⟩ := M.a_check_matrix
  obtain ⟨f_columns_of, d_columns_of⟩ := M.a_columns_of
  obtain ⟨f_dot_product, d_dot_product⟩ := M.a_dot_product
  exact fnF (ps := ["modulus", "width", "one", "other"]) d rfl ⟨rfl, rfl, rfl, by decide +kernel, rfl, by decide +kernel, by decide +kernel⟩ rfl (fun _ _ _ _ _ _ us hl => match us, hl with | [_, _, _, _], _ => rfl) ⟨M.bis, M.kon, all_cons (defs_at d_check_modulus rfl (g_check_modulus M d_check_modulus) (by decide)) (all_cons (defs_at d_check_width rfl (g_check_width M d_check_width) (by decide)) (all_cons (defs_at d_check_matrix rfl (g_check_matrix M d_check_matrix) (by decide)) (all_cons (defs_at d_columns_of rfl (g_columns_of M d_columns_of) (by decide)) (all_cons (defs_at d_dot_product rfl (g_dot_product M d_dot_product) (by decide)) (all_nil)))))⟩ (some_of w_product)
theorem g_transposed (M : Md K mg) {f : Addr} (d : DefAt K mg "transposed" b_transposed f) : FnG P w K mg base (L2.CX P w) 6 f (spD K F_transposed) := by
  obtain ⟨f_check_modulus, d_check_modulus⟩ := M.a_check_modulus
  obtain ⟨f_check_width, d_check_width⟩ := M.a_check_width
  obtain ⟨f_check_matrix, d_check_matrix⟩ := M.a_check_matrix
  obtain ⟨f_columns_of, d_columns_of⟩ := M.a_columns_of
  exact fnF (ps := ["modulus", "width", "matrix"]) d rfl ⟨rfl, rfl, rfl, by decide +kernel, rfl, by decide +kernel, by decide +kernel⟩ rfl (fun _ _ _ _ _ _ us hl => match us, hl with | [_, _, _], _ => rfl) ⟨M.bis, M.kon, all_cons (defs_at d_check_modulus rfl (g_check_modulus M d_check_modulus) (by decide)) (all_cons (defs_at d_check_width rfl (g_check_width M d_check_width) (by decide)) (all_cons (defs_at d_check_matrix rfl (g_check_matrix M d_check_matrix) (by decide)) (all_cons (defs_at d_columns_of rfl (g_columns_of M d_columns_of) (by decide)) (all_nil))))⟩ (some_of w_transposed)
theorem g_law_sums_right (M : Md K mg) {f : Addr} (d : DefAt K mg "_law_sums_right" b_law_sums_right f) : FnG P w K mg base (L2.CX P w) 7 f (spD K F_law_sums_right) := by
  obtain ⟨f_law_matrix, d_law_matrix⟩ := M.a_law_matrix
  obtain ⟨f_law_take, d_law_take⟩ := M.a_law_take
  obtain ⟨f_added, d_added⟩ := M.a_added
  obtain ⟨f_law_combined, d_law_combined⟩ := M.a_law_combined
  obtain ⟨f_scaled, d_scaled⟩ := M.a_scaled
  obtain ⟨f_dot, d_dot⟩ := M.a_dot
  exact fnF (ps := ["_law_pot_here", "_law_modulus_here", "_law_width"]) d rfl ⟨rfl, rfl, rfl, by decide +kernel, rfl, by decide +kernel, by decide +kernel⟩ rfl (fun _ _ _ _ _ _ us hl => match us, hl with | [_, _, _], _ => rfl) ⟨M.bis, M.kon, all_cons (defs_at d_law_matrix rfl (g_law_matrix M d_law_matrix) (by decide)) (all_cons (defs_at d_law_take rfl (g_law_take M d_law_take) (by decide)) (all_cons (defs_at d_added rfl (g_added M d_added) (by decide)) (all_cons (defs_at d_law_combined rfl (g_law_combined M d_law_combined) (by decide)) (all_cons (defs_at d_scaled rfl (g_scaled M d_scaled) (by decide)) (all_cons (defs_at d_dot rfl (g_dot M d_dot) (by decide)) (all_nil))))))⟩ (some_of w_law_sums_right)
theorem g_law_products_right (M : Md K mg) {f : Addr} (d : DefAt K mg "_law_products_right" b_law_products_right f) : FnG P w K mg base (L2.CX P w) 7 f (spD K F_law_products_right) := by
  obtain ⟨f_law_matrix, d_law_matrix⟩ := M.a_law_matrix
  obtain ⟨f_product, d_product⟩ := M.a_product
  obtain ⟨f_transposed, d_transposed⟩ := M.a_transposed
  obtain ⟨f_law_vector, d_law_vector⟩ := M.a_law_vector
  obtain ⟨f_law_columns, d_law_columns⟩ := M.a_law_columns
  obtain ⟨f_combination, d_combination⟩ := M.a_combination
  obtain ⟨f_law_combined, d_law_combined⟩ := M.a_law_combined
  exact fnF (ps := ["_law_pot_here", "_law_modulus_here", "_law_sizes"]) d rfl ⟨rfl, rfl, rfl, by decide +kernel, rfl, by decide +kernel, by decide +kernel⟩ rfl (fun _ _ _ _ _ _ us hl => match us, hl with | [_, _, _], _ => rfl) ⟨M.bis, M.kon, all_cons (defs_at d_law_matrix rfl (g_law_matrix M d_law_matrix) (by decide)) (all_cons (defs_at d_product rfl (g_product M d_product) (by decide)) (all_cons (defs_at d_transposed rfl (g_transposed M d_transposed) (by decide)) (all_cons (defs_at d_law_vector rfl (g_law_vector M d_law_vector) (by decide)) (all_cons (defs_at d_law_columns rfl (g_law_columns M d_law_columns) (by decide)) (all_cons (defs_at d_combination rfl (g_combination M d_combination) (by decide)) (all_cons (defs_at d_law_combined rfl (g_law_combined M d_law_combined) (by decide)) (all_nil)))))))⟩ (some_of w_law_products_right)
theorem g_law (M : Md K mg) {f : Addr} (d : DefAt K mg "law" b_law f) : FnG P w K mg base (L2.CX P w) 8 f (spD K F_law) := by
  obtain ⟨f_transposed, d_transposed⟩ := M.a_transposed
  obtain ⟨f_law_pot, d_law_pot⟩ := M.a_law_pot
  obtain ⟨f_law_modulus, d_law_modulus⟩ := M.a_law_modulus
  obtain ⟨f_added, d_added⟩ := M.a_added
  obtain ⟨f_scaled, d_scaled⟩ := M.a_scaled
  obtain ⟨f_dot, d_dot⟩ := M.a_dot
  obtain ⟨f_combination, d_combination⟩ := M.a_combination
  obtain ⟨f_product, d_product⟩ := M.a_product
  obtain ⟨f_law_sums_right, d_law_sums_right⟩ := M.a_law_sums_right
  obtain ⟨f_law_columns, d_law_columns⟩ := M.a_law_columns
  obtain ⟨f_law_take, d_law_take⟩ := M.a_law_take
  obtain ⟨f_law_products_right, d_law_products_right⟩ := M.a_law_products_right
  exact fnF (ps := ["_law_script"]) d rfl ⟨rfl, rfl, rfl, by decide +kernel, rfl, by decide +kernel, by decide +kernel⟩ rfl (fun _ _ _ _ _ _ us hl => match us, hl with | [_], _ => rfl) ⟨M.bis, M.kon, all_cons (defs_at d_transposed rfl (g_transposed M d_transposed) (by decide)) (all_cons (defs_at d_law_pot rfl (g_law_pot M d_law_pot) (by decide)) (all_cons (defs_at d_law_modulus rfl (g_law_modulus M d_law_modulus) (by decide)) (all_cons (defs_at d_added rfl (g_added M d_added) (by decide)) (all_cons (defs_at d_scaled rfl (g_scaled M d_scaled) (by decide)) (all_cons (defs_at d_dot rfl (g_dot M d_dot) (by decide)) (all_cons (defs_at d_combination rfl (g_combination M d_combination) (by decide)) (all_cons (defs_at d_product rfl (g_product M d_product) (by decide)) (all_cons (defs_at d_law_sums_right rfl (g_law_sums_right M d_law_sums_right) (by decide)) (all_cons (defs_at d_law_columns rfl (g_law_columns M d_law_columns) (by decide)) (all_cons (defs_at d_law_take rfl (g_law_take M d_law_take) (by decide)) (all_cons (defs_at d_law_products_right rfl (g_law_products_right M d_law_products_right) (by decide)) (all_nil))))))))))))⟩ (some_of w_law)
theorem all_mk {h : Heap} {fa : Addr} (X : K.In h) (G : h.Ns mainGlobals mg) (hfa : mg "law" = some (.ref fa)) {f_multiple f_dot_product f_columns_of f_is_int f_law_pot f_law_take f_law_combined f_law_columns f_combined f_is_modulus f_is_number f_check_width f_law_modulus f_law_vector f_are_numbers f_check_modulus f_check_number f_law_matrix f_are_vectors f_check_vector f_check_vector_of f_check_matrix f_scaled f_added f_dot f_combination f_product f_transposed f_law_sums_right f_law_products_right f_law : Addr} {oc_multiple kV_multiple dc_multiple pm_multiple cd_multiple ct_multiple : Value} {od_multiple an_multiple : Option Addr} {sl_multiple : Array (Option Value)} {oc_dot_product kV_dot_product dc_dot_product pm_dot_product cd_dot_product ct_dot_product : Value} {od_dot_product an_dot_product : Option Addr} {sl_dot_product : Array (Option Value)} {oc_columns_of kV_columns_of dc_columns_of pm_columns_of cd_columns_of ct_columns_of : Value} {od_columns_of an_columns_of : Option Addr} {sl_columns_of : Array (Option Value)} {oc_is_int kV_is_int dc_is_int pm_is_int cd_is_int ct_is_int : Value} {od_is_int an_is_int : Option Addr} {sl_is_int : Array (Option Value)} {oc_law_pot kV_law_pot dc_law_pot pm_law_pot cd_law_pot ct_law_pot : Value} {od_law_pot an_law_pot : Option Addr} {sl_law_pot : Array (Option Value)} {oc_law_take kV_law_take dc_law_take pm_law_take cd_law_take ct_law_take : Value} {od_law_take an_law_take : Option Addr} {sl_law_take : Array (Option Value)} {oc_law_combined kV_law_combined dc_law_combined pm_law_combined cd_law_combined ct_law_combined : Value} {od_law_combined an_law_combined : Option Addr} {sl_law_combined : Array (Option Value)} {oc_law_columns kV_law_columns dc_law_columns pm_law_columns cd_law_columns ct_law_columns : Value} {od_law_columns an_law_columns : Option Addr} {sl_law_columns : Array (Option Value)} {oc_combined kV_combined dc_combined pm_combined cd_combined ct_combined : Value} {od_combined an_combined : Option Addr} {sl_combined : Array (Option Value)} {oc_is_modulus kV_is_modulus dc_is_modulus pm_is_modulus cd_is_modulus ct_is_modulus : Value} {od_is_modulus an_is_modulus : Option Addr} {sl_is_modulus : Array (Option Value)} {oc_is_number kV_is_number dc_is_number pm_is_number cd_is_number ct_is_number : Value} {od_is_number an_is_number : Option Addr} {sl_is_number : Array (Option Value)} {oc_check_width kV_check_width dc_check_width pm_check_width cd_check_width ct_check_width : Value} {od_check_width an_check_width : Option Addr} {sl_check_width : Array (Option Value)} {oc_law_modulus kV_law_modulus dc_law_modulus pm_law_modulus cd_law_modulus ct_law_modulus : Value} {od_law_modulus an_law_modulus : Option Addr} {sl_law_modulus : Array (Option Value)} {oc_law_vector kV_law_vector dc_law_vector pm_law_vector cd_law_vector ct_law_vector : Value} {od_law_vector an_law_vector : Option Addr} {sl_law_vector : Array (Option Value)} {oc_are_numbers kV_are_numbers dc_are_numbers pm_are_numbers cd_are_numbers ct_are_numbers : Value} {od_are_numbers an_are_numbers : Option Addr} {sl_are_numbers : Array (Option Value)} {oc_check_modulus kV_check_modulus dc_check_modulus pm_check_modulus cd_check_modulus ct_check_modulus : Value} {od_check_modulus an_check_modulus : Option Addr} {sl_check_modulus : Array (Option Value)} {oc_check_number kV_check_number dc_check_number pm_check_number cd_check_number ct_check_number : Value} {od_check_number an_check_number : Option Addr} {sl_check_number : Array (Option Value)} {oc_law_matrix kV_law_matrix dc_law_matrix pm_law_matrix cd_law_matrix ct_law_matrix : Value} {od_law_matrix an_law_matrix : Option Addr} {sl_law_matrix : Array (Option Value)} {oc_are_vectors kV_are_vectors dc_are_vectors pm_are_vectors cd_are_vectors ct_are_vectors : Value} {od_are_vectors an_are_vectors : Option Addr} {sl_are_vectors : Array (Option Value)} {oc_check_vector kV_check_vector dc_check_vector pm_check_vector cd_check_vector ct_check_vector : Value} {od_check_vector an_check_vector : Option Addr} {sl_check_vector : Array (Option Value)} {oc_check_vector_of kV_check_vector_of dc_check_vector_of pm_check_vector_of cd_check_vector_of ct_check_vector_of : Value} {od_check_vector_of an_check_vector_of : Option Addr} {sl_check_vector_of : Array (Option Value)} {oc_check_matrix kV_check_matrix dc_check_matrix pm_check_matrix cd_check_matrix ct_check_matrix : Value} {od_check_matrix an_check_matrix : Option Addr} {sl_check_matrix : Array (Option Value)} {oc_scaled kV_scaled dc_scaled pm_scaled cd_scaled ct_scaled : Value} {od_scaled an_scaled : Option Addr} {sl_scaled : Array (Option Value)} {oc_added kV_added dc_added pm_added cd_added ct_added : Value} {od_added an_added : Option Addr} {sl_added : Array (Option Value)} {oc_dot kV_dot dc_dot pm_dot cd_dot ct_dot : Value} {od_dot an_dot : Option Addr} {sl_dot : Array (Option Value)} {oc_combination kV_combination dc_combination pm_combination cd_combination ct_combination : Value} {od_combination an_combination : Option Addr} {sl_combination : Array (Option Value)} {oc_product kV_product dc_product pm_product cd_product ct_product : Value} {od_product an_product : Option Addr} {sl_product : Array (Option Value)} {oc_transposed kV_transposed dc_transposed pm_transposed cd_transposed ct_transposed : Value} {od_transposed an_transposed : Option Addr} {sl_transposed : Array (Option Value)} {oc_law_sums_right kV_law_sums_right dc_law_sums_right pm_law_sums_right cd_law_sums_right ct_law_sums_right : Value} {od_law_sums_right an_law_sums_right : Option Addr} {sl_law_sums_right : Array (Option Value)} {oc_law_products_right kV_law_products_right dc_law_products_right pm_law_products_right cd_law_products_right ct_law_products_right : Value} {od_law_products_right an_law_products_right : Option Addr} {sl_law_products_right : Array (Option Value)} {oc_law kV_law dc_law pm_law cd_law ct_law : Value} {od_law an_law : Option Addr} {sl_law : Array (Option Value)}
    (a_multiple : PySem.W.nsIn K mainGlobals "multiple" = some (some (.ref f_multiple))) (l_multiple : K.lookup f_multiple = some ⟨oc_multiple, od_multiple, .func (PySem.W.fnOf "multiple" "multiple" (defArgs b_multiple) (defBody b_multiple) (defScope b_multiple) .none kV_multiple dc_multiple pm_multiple an_multiple cd_multiple ct_multiple), sl_multiple⟩) (c_multiple : PySem.W.codeIn K cd_multiple "multiple" = true) (k_multiple : PySem.W.keepIn K (.ref f_multiple) = true)
    (a_dot_product : PySem.W.nsIn K mainGlobals "dot_product" = some (some (.ref f_dot_product))) (l_dot_product : K.lookup f_dot_product = some ⟨oc_dot_product, od_dot_product, .func (PySem.W.fnOf "dot_product" "dot_product" (defArgs b_dot_product) (defBody b_dot_product) (defScope b_dot_product) .none kV_dot_product dc_dot_product pm_dot_product an_dot_product cd_dot_product ct_dot_product), sl_dot_product⟩) (c_dot_product : PySem.W.codeIn K cd_dot_product "dot_product" = true) (k_dot_product : PySem.W.keepIn K (.ref f_dot_product) = true)
    (a_columns_of : PySem.W.nsIn K mainGlobals "columns_of" = some (some (.ref f_columns_of))) (l_columns_of : K.lookup f_columns_of = some ⟨oc_columns_of, od_columns_of, .func (PySem.W.fnOf "columns_of" "columns_of" (defArgs b_columns_of) (defBody b_columns_of) (defScope b_columns_of) .none kV_columns_of dc_columns_of pm_columns_of an_columns_of cd_columns_of ct_columns_of), sl_columns_of⟩) (c_columns_of : PySem.W.codeIn K cd_columns_of "columns_of" = true) (k_columns_of : PySem.W.keepIn K (.ref f_columns_of) = true)
    (a_is_int : PySem.W.nsIn K mainGlobals "is_int" = some (some (.ref f_is_int))) (l_is_int : K.lookup f_is_int = some ⟨oc_is_int, od_is_int, .func (PySem.W.fnOf "is_int" "is_int" (defArgs b_is_int) (defBody b_is_int) (defScope b_is_int) .none kV_is_int dc_is_int pm_is_int an_is_int cd_is_int ct_is_int), sl_is_int⟩) (c_is_int : PySem.W.codeIn K cd_is_int "is_int" = true) (k_is_int : PySem.W.keepIn K (.ref f_is_int) = true)
    (a_law_pot : PySem.W.nsIn K mainGlobals "_law_pot" = some (some (.ref f_law_pot))) (l_law_pot : K.lookup f_law_pot = some ⟨oc_law_pot, od_law_pot, .func (PySem.W.fnOf "_law_pot" "_law_pot" (defArgs b_law_pot) (defBody b_law_pot) (defScope b_law_pot) .none kV_law_pot dc_law_pot pm_law_pot an_law_pot cd_law_pot ct_law_pot), sl_law_pot⟩) (c_law_pot : PySem.W.codeIn K cd_law_pot "_law_pot" = true) (k_law_pot : PySem.W.keepIn K (.ref f_law_pot) = true)
    (a_law_take : PySem.W.nsIn K mainGlobals "_law_take" = some (some (.ref f_law_take))) (l_law_take : K.lookup f_law_take = some ⟨oc_law_take, od_law_take, .func (PySem.W.fnOf "_law_take" "_law_take" (defArgs b_law_take) (defBody b_law_take) (defScope b_law_take) .none kV_law_take dc_law_take pm_law_take an_law_take cd_law_take ct_law_take), sl_law_take⟩) (c_law_take : PySem.W.codeIn K cd_law_take "_law_take" = true) (k_law_take : PySem.W.keepIn K (.ref f_law_take) = true)
    (a_law_combined : PySem.W.nsIn K mainGlobals "_law_combined" = some (some (.ref f_law_combined))) (l_law_combined : K.lookup f_law_combined = some ⟨oc_law_combined, od_law_combined, .func (PySem.W.fnOf "_law_combined" "_law_combined" (defArgs b_law_combined) (defBody b_law_combined) (defScope b_law_combined) .none kV_law_combined dc_law_combined pm_law_combined an_law_combined cd_law_combined ct_law_combined), sl_law_combined⟩) (c_law_combined : PySem.W.codeIn K cd_law_combined "_law_combined" = true) (k_law_combined : PySem.W.keepIn K (.ref f_law_combined) = true)
    (a_law_columns : PySem.W.nsIn K mainGlobals "_law_columns" = some (some (.ref f_law_columns))) (l_law_columns : K.lookup f_law_columns = some ⟨oc_law_columns, od_law_columns, .func (PySem.W.fnOf "_law_columns" "_law_columns" (defArgs b_law_columns) (defBody b_law_columns) (defScope b_law_columns) .none kV_law_columns dc_law_columns pm_law_columns an_law_columns cd_law_columns ct_law_columns), sl_law_columns⟩) (c_law_columns : PySem.W.codeIn K cd_law_columns "_law_columns" = true) (k_law_columns : PySem.W.keepIn K (.ref f_law_columns) = true)
    (a_combined : PySem.W.nsIn K mainGlobals "combined" = some (some (.ref f_combined))) (l_combined : K.lookup f_combined = some ⟨oc_combined, od_combined, .func (PySem.W.fnOf "combined" "combined" (defArgs b_combined) (defBody b_combined) (defScope b_combined) .none kV_combined dc_combined pm_combined an_combined cd_combined ct_combined), sl_combined⟩) (c_combined : PySem.W.codeIn K cd_combined "combined" = true) (k_combined : PySem.W.keepIn K (.ref f_combined) = true)
    (a_is_modulus : PySem.W.nsIn K mainGlobals "is_modulus" = some (some (.ref f_is_modulus))) (l_is_modulus : K.lookup f_is_modulus = some ⟨oc_is_modulus, od_is_modulus, .func (PySem.W.fnOf "is_modulus" "is_modulus" (defArgs b_is_modulus) (defBody b_is_modulus) (defScope b_is_modulus) .none kV_is_modulus dc_is_modulus pm_is_modulus an_is_modulus cd_is_modulus ct_is_modulus), sl_is_modulus⟩) (c_is_modulus : PySem.W.codeIn K cd_is_modulus "is_modulus" = true) (k_is_modulus : PySem.W.keepIn K (.ref f_is_modulus) = true)
    (a_is_number : PySem.W.nsIn K mainGlobals "is_number" = some (some (.ref f_is_number))) (l_is_number : K.lookup f_is_number = some ⟨oc_is_number, od_is_number, .func (PySem.W.fnOf "is_number" "is_number" (defArgs b_is_number) (defBody b_is_number) (defScope b_is_number) .none kV_is_number dc_is_number pm_is_number an_is_number cd_is_number ct_is_number), sl_is_number⟩) (c_is_number : PySem.W.codeIn K cd_is_number "is_number" = true) (k_is_number : PySem.W.keepIn K (.ref f_is_number) = true)
    (a_check_width : PySem.W.nsIn K mainGlobals "check_width" = some (some (.ref f_check_width))) (l_check_width : K.lookup f_check_width = some ⟨oc_check_width, od_check_width, .func (PySem.W.fnOf "check_width" "check_width" (defArgs b_check_width) (defBody b_check_width) (defScope b_check_width) .none kV_check_width dc_check_width pm_check_width an_check_width cd_check_width ct_check_width), sl_check_width⟩) (c_check_width : PySem.W.codeIn K cd_check_width "check_width" = true) (k_check_width : PySem.W.keepIn K (.ref f_check_width) = true)
    (a_law_modulus : PySem.W.nsIn K mainGlobals "_law_modulus" = some (some (.ref f_law_modulus))) (l_law_modulus : K.lookup f_law_modulus = some ⟨oc_law_modulus, od_law_modulus, .func (PySem.W.fnOf "_law_modulus" "_law_modulus" (defArgs b_law_modulus) (defBody b_law_modulus) (defScope b_law_modulus) .none kV_law_modulus dc_law_modulus pm_law_modulus an_law_modulus cd_law_modulus ct_law_modulus), sl_law_modulus⟩) (c_law_modulus : PySem.W.codeIn K cd_law_modulus "_law_modulus" = true) (k_law_modulus : PySem.W.keepIn K (.ref f_law_modulus) = true)
    (a_law_vector : PySem.W.nsIn K mainGlobals "_law_vector" = some (some (.ref f_law_vector))) (l_law_vector : K.lookup f_law_vector = some ⟨oc_law_vector, od_law_vector, .func (PySem.W.fnOf "_law_vector" "_law_vector" (defArgs b_law_vector) (defBody b_law_vector) (defScope b_law_vector) .none kV_law_vector dc_law_vector pm_law_vector an_law_vector cd_law_vector ct_law_vector), sl_law_vector⟩) (c_law_vector : PySem.W.codeIn K cd_law_vector "_law_vector" = true) (k_law_vector : PySem.W.keepIn K (.ref f_law_vector) = true)
    (a_are_numbers : PySem.W.nsIn K mainGlobals "are_numbers" = some (some (.ref f_are_numbers))) (l_are_numbers : K.lookup f_are_numbers = some ⟨oc_are_numbers, od_are_numbers, .func (PySem.W.fnOf "are_numbers" "are_numbers" (defArgs b_are_numbers) (defBody b_are_numbers) (defScope b_are_numbers) .none kV_are_numbers dc_are_numbers pm_are_numbers an_are_numbers cd_are_numbers ct_are_numbers), sl_are_numbers⟩) (c_are_numbers : PySem.W.codeIn K cd_are_numbers "are_numbers" = true) (k_are_numbers : PySem.W.keepIn K (.ref f_are_numbers) = true)
    (a_check_modulus : PySem.W.nsIn K mainGlobals "check_modulus" = some (some (.ref f_check_modulus))) (l_check_modulus : K.lookup f_check_modulus = some ⟨oc_check_modulus, od_check_modulus, .func (PySem.W.fnOf "check_modulus" "check_modulus" (defArgs b_check_modulus) (defBody b_check_modulus) (defScope b_check_modulus) .none kV_check_modulus dc_check_modulus pm_check_modulus an_check_modulus cd_check_modulus ct_check_modulus), sl_check_modulus⟩) (c_check_modulus : PySem.W.codeIn K cd_check_modulus "check_modulus" = true) (k_check_modulus : PySem.W.keepIn K (.ref f_check_modulus) = true)
    (a_check_number : PySem.W.nsIn K mainGlobals "check_number" = some (some (.ref f_check_number))) (l_check_number : K.lookup f_check_number = some ⟨oc_check_number, od_check_number, .func (PySem.W.fnOf "check_number" "check_number" (defArgs b_check_number) (defBody b_check_number) (defScope b_check_number) .none kV_check_number dc_check_number pm_check_number an_check_number cd_check_number ct_check_number), sl_check_number⟩) (c_check_number : PySem.W.codeIn K cd_check_number "check_number" = true) (k_check_number : PySem.W.keepIn K (.ref f_check_number) = true)
    (a_law_matrix : PySem.W.nsIn K mainGlobals "_law_matrix" = some (some (.ref f_law_matrix))) (l_law_matrix : K.lookup f_law_matrix = some ⟨oc_law_matrix, od_law_matrix, .func (PySem.W.fnOf "_law_matrix" "_law_matrix" (defArgs b_law_matrix) (defBody b_law_matrix) (defScope b_law_matrix) .none kV_law_matrix dc_law_matrix pm_law_matrix an_law_matrix cd_law_matrix ct_law_matrix), sl_law_matrix⟩) (c_law_matrix : PySem.W.codeIn K cd_law_matrix "_law_matrix" = true) (k_law_matrix : PySem.W.keepIn K (.ref f_law_matrix) = true)
    (a_are_vectors : PySem.W.nsIn K mainGlobals "are_vectors" = some (some (.ref f_are_vectors))) (l_are_vectors : K.lookup f_are_vectors = some ⟨oc_are_vectors, od_are_vectors, .func (PySem.W.fnOf "are_vectors" "are_vectors" (defArgs b_are_vectors) (defBody b_are_vectors) (defScope b_are_vectors) .none kV_are_vectors dc_are_vectors pm_are_vectors an_are_vectors cd_are_vectors ct_are_vectors), sl_are_vectors⟩) (c_are_vectors : PySem.W.codeIn K cd_are_vectors "are_vectors" = true) (k_are_vectors : PySem.W.keepIn K (.ref f_are_vectors) = true)
    (a_check_vector : PySem.W.nsIn K mainGlobals "check_vector" = some (some (.ref f_check_vector))) (l_check_vector : K.lookup f_check_vector = some ⟨oc_check_vector, od_check_vector, .func (PySem.W.fnOf "check_vector" "check_vector" (defArgs b_check_vector) (defBody b_check_vector) (defScope b_check_vector) .none kV_check_vector dc_check_vector pm_check_vector an_check_vector cd_check_vector ct_check_vector), sl_check_vector⟩) (c_check_vector : PySem.W.codeIn K cd_check_vector "check_vector" = true) (k_check_vector : PySem.W.keepIn K (.ref f_check_vector) = true)
    (a_check_vector_of : PySem.W.nsIn K mainGlobals "check_vector_of" = some (some (.ref f_check_vector_of))) (l_check_vector_of : K.lookup f_check_vector_of = some ⟨oc_check_vector_of, od_check_vector_of, .func (PySem.W.fnOf "check_vector_of" "check_vector_of" (defArgs b_check_vector_of) (defBody b_check_vector_of) (defScope b_check_vector_of) .none kV_check_vector_of dc_check_vector_of pm_check_vector_of an_check_vector_of cd_check_vector_of ct_check_vector_of), sl_check_vector_of⟩) (c_check_vector_of : PySem.W.codeIn K cd_check_vector_of "check_vector_of" = true) (k_check_vector_of : PySem.W.keepIn K (.ref f_check_vector_of) = true)
    (a_check_matrix : PySem.W.nsIn K mainGlobals "check_matrix" = some (some (.ref f_check_matrix))) (l_check_matrix : K.lookup f_check_matrix = some ⟨oc_check_matrix, od_check_matrix, .func (PySem.W.fnOf "check_matrix" "check_matrix" (defArgs b_check_matrix) (defBody b_check_matrix) (defScope b_check_matrix) .none kV_check_matrix dc_check_matrix pm_check_matrix an_check_matrix cd_check_matrix ct_check_matrix), sl_check_matrix⟩) (c_check_matrix : PySem.W.codeIn K cd_check_matrix "check_matrix" = true) (k_check_matrix : PySem.W.keepIn K (.ref f_check_matrix) = true)
    (a_scaled : PySem.W.nsIn K mainGlobals "scaled" = some (some (.ref f_scaled))) (l_scaled : K.lookup f_scaled = some ⟨oc_scaled, od_scaled, .func (PySem.W.fnOf "scaled" "scaled" (defArgs b_scaled) (defBody b_scaled) (defScope b_scaled) .none kV_scaled dc_scaled pm_scaled an_scaled cd_scaled ct_scaled), sl_scaled⟩) (c_scaled : PySem.W.codeIn K cd_scaled "scaled" = true) (k_scaled : PySem.W.keepIn K (.ref f_scaled) = true)
    (a_added : PySem.W.nsIn K mainGlobals "added" = some (some (.ref f_added))) (l_added : K.lookup f_added = some ⟨oc_added, od_added, .func (PySem.W.fnOf "added" "added" (defArgs b_added) (defBody b_added) (defScope b_added) .none kV_added dc_added pm_added an_added cd_added ct_added), sl_added⟩) (c_added : PySem.W.codeIn K cd_added "added" = true) (k_added : PySem.W.keepIn K (.ref f_added) = true)
    (a_dot : PySem.W.nsIn K mainGlobals "dot" = some (some (.ref f_dot))) (l_dot : K.lookup f_dot = some ⟨oc_dot, od_dot, .func (PySem.W.fnOf "dot" "dot" (defArgs b_dot) (defBody b_dot) (defScope b_dot) .none kV_dot dc_dot pm_dot an_dot cd_dot ct_dot), sl_dot⟩) (c_dot : PySem.W.codeIn K cd_dot "dot" = true) (k_dot : PySem.W.keepIn K (.ref f_dot) = true)
    (a_combination : PySem.W.nsIn K mainGlobals "combination" = some (some (.ref f_combination))) (l_combination : K.lookup f_combination = some ⟨oc_combination, od_combination, .func (PySem.W.fnOf "combination" "combination" (defArgs b_combination) (defBody b_combination) (defScope b_combination) .none kV_combination dc_combination pm_combination an_combination cd_combination ct_combination), sl_combination⟩) (c_combination : PySem.W.codeIn K cd_combination "combination" = true) (k_combination : PySem.W.keepIn K (.ref f_combination) = true)
    (a_product : PySem.W.nsIn K mainGlobals "product" = some (some (.ref f_product))) (l_product : K.lookup f_product = some ⟨oc_product, od_product, .func (PySem.W.fnOf "product" "product" (defArgs b_product) (defBody b_product) (defScope b_product) .none kV_product dc_product pm_product an_product cd_product ct_product), sl_product⟩) (c_product : PySem.W.codeIn K cd_product "product" = true) (k_product : PySem.W.keepIn K (.ref f_product) = true)
    (a_transposed : PySem.W.nsIn K mainGlobals "transposed" = some (some (.ref f_transposed))) (l_transposed : K.lookup f_transposed = some ⟨oc_transposed, od_transposed, .func (PySem.W.fnOf "transposed" "transposed" (defArgs b_transposed) (defBody b_transposed) (defScope b_transposed) .none kV_transposed dc_transposed pm_transposed an_transposed cd_transposed ct_transposed), sl_transposed⟩) (c_transposed : PySem.W.codeIn K cd_transposed "transposed" = true) (k_transposed : PySem.W.keepIn K (.ref f_transposed) = true)
    (a_law_sums_right : PySem.W.nsIn K mainGlobals "_law_sums_right" = some (some (.ref f_law_sums_right))) (l_law_sums_right : K.lookup f_law_sums_right = some ⟨oc_law_sums_right, od_law_sums_right, .func (PySem.W.fnOf "_law_sums_right" "_law_sums_right" (defArgs b_law_sums_right) (defBody b_law_sums_right) (defScope b_law_sums_right) .none kV_law_sums_right dc_law_sums_right pm_law_sums_right an_law_sums_right cd_law_sums_right ct_law_sums_right), sl_law_sums_right⟩) (c_law_sums_right : PySem.W.codeIn K cd_law_sums_right "_law_sums_right" = true) (k_law_sums_right : PySem.W.keepIn K (.ref f_law_sums_right) = true)
    (a_law_products_right : PySem.W.nsIn K mainGlobals "_law_products_right" = some (some (.ref f_law_products_right))) (l_law_products_right : K.lookup f_law_products_right = some ⟨oc_law_products_right, od_law_products_right, .func (PySem.W.fnOf "_law_products_right" "_law_products_right" (defArgs b_law_products_right) (defBody b_law_products_right) (defScope b_law_products_right) .none kV_law_products_right dc_law_products_right pm_law_products_right an_law_products_right cd_law_products_right ct_law_products_right), sl_law_products_right⟩) (c_law_products_right : PySem.W.codeIn K cd_law_products_right "_law_products_right" = true) (k_law_products_right : PySem.W.keepIn K (.ref f_law_products_right) = true)
    (a_law : PySem.W.nsIn K mainGlobals "law" = some (some (.ref f_law))) (l_law : K.lookup f_law = some ⟨oc_law, od_law, .func (PySem.W.fnOf "law" "law" (defArgs b_law) (defBody b_law) (defScope b_law) .none kV_law dc_law pm_law an_law cd_law ct_law), sl_law⟩) (c_law : PySem.W.codeIn K cd_law "law" = true) (k_law : PySem.W.keepIn K (.ref f_law) = true)
    (z_len : PySem.W.nsIn K mainGlobals "len" = some none)
    (z_abs : PySem.W.nsIn K mainGlobals "abs" = some none)
    (z_int : PySem.W.nsIn K mainGlobals "int" = some none)
    (z_max : PySem.W.nsIn K mainGlobals "max" = some none)
    (z_min : PySem.W.nsIn K mainGlobals "min" = some none)
    (z_tuple : PySem.W.nsIn K mainGlobals "tuple" = some none)
    (z_isinstance : PySem.W.nsIn K mainGlobals "isinstance" = some none)
    (z_all : PySem.W.nsIn K mainGlobals "all" = some none)
    (z_sum : PySem.W.nsIn K mainGlobals "sum" = some none)
    (z_range : PySem.W.nsIn K mainGlobals "range" = some none)
    (z_zip : PySem.W.nsIn K mainGlobals "zip" = some none)
    (z_bool : PySem.W.nsIn K mainGlobals "bool" = some none)
    (z_repr : PySem.W.nsIn K mainGlobals "repr" = some none)
    {t_MAX_MODULUS : Tok} (m_MAX_MODULUS : PySem.W.nsIn K mainGlobals "MAX_MODULUS" = some (some (.int 97 t_MAX_MODULUS)))
    {t_MAX_WIDTH : Tok} (m_MAX_WIDTH : PySem.W.nsIn K mainGlobals "MAX_WIDTH" = some (some (.int 100 t_MAX_WIDTH)))
    {t_MAX_VECTORS : Tok} (m_MAX_VECTORS : PySem.W.nsIn K mainGlobals "MAX_VECTORS" = some (some (.int 100 t_MAX_VECTORS)))
    : ∀ B : Heap, FnG P w K mg B (L2.CX P w) 8 fa (spD K F_law) := by
  have M : Md K mg := ⟨all_cons (PySem.W.mg_none_of X G z_len) (all_cons (PySem.W.mg_none_of X G z_abs) (all_cons (PySem.W.mg_none_of X G z_int) (all_cons (PySem.W.mg_none_of X G z_max) (all_cons (PySem.W.mg_none_of X G z_min) (all_cons (PySem.W.mg_none_of X G z_tuple) (all_cons (PySem.W.mg_none_of X G z_isinstance) (all_cons (PySem.W.mg_none_of X G z_all) (all_cons (PySem.W.mg_none_of X G z_sum) (all_cons (PySem.W.mg_none_of X G z_range) (all_cons (PySem.W.mg_none_of X G z_zip) (all_cons (PySem.W.mg_none_of X G z_bool) (all_cons (PySem.W.mg_none_of X G z_repr) (all_nil))))))))))))), all_cons ⟨_, PySem.W.mg_of X G m_MAX_MODULUS, _, rfl⟩ (all_cons ⟨_, PySem.W.mg_of X G m_MAX_WIDTH, _, rfl⟩ (all_cons ⟨_, PySem.W.mg_of X G m_MAX_VECTORS, _, rfl⟩ (all_nil))), ⟨f_multiple, defAt_mk X G a_multiple l_multiple c_multiple k_multiple⟩, ⟨f_dot_product, defAt_mk X G a_dot_product l_dot_product c_dot_product k_dot_product⟩, ⟨f_columns_of, defAt_mk X G a_columns_of l_columns_of c_columns_of k_columns_of⟩, ⟨f_is_int, defAt_mk X G a_is_int l_is_int c_is_int k_is_int⟩, ⟨f_law_pot, defAt_mk X G a_law_pot l_law_pot c_law_pot k_law_pot⟩, ⟨f_law_take, defAt_mk X G a_law_take l_law_take c_law_take k_law_take⟩, ⟨f_law_combined, defAt_mk X G a_law_combined l_law_combined c_law_combined k_law_combined⟩, ⟨f_law_columns, defAt_mk X G a_law_columns l_law_columns c_law_columns k_law_columns⟩, ⟨f_combined, defAt_mk X G a_combined l_combined c_combined k_combined⟩, ⟨f_is_modulus, defAt_mk X G a_is_modulus l_is_modulus c_is_modulus k_is_modulus⟩, ⟨f_is_number, defAt_mk X G a_is_number l_is_number c_is_number k_is_number⟩, ⟨f_check_width, defAt_mk X G a_check_width l_check_width c_check_width k_check_width⟩, ⟨f_law_modulus, defAt_mk X G a_law_modulus l_law_modulus c_law_modulus k_law_modulus⟩, ⟨f_law_vector, defAt_mk X G a_law_vector l_law_vector c_law_vector k_law_vector⟩, ⟨f_are_numbers, defAt_mk X G a_are_numbers l_are_numbers c_are_numbers k_are_numbers⟩, ⟨f_check_modulus, defAt_mk X G a_check_modulus l_check_modulus c_check_modulus k_check_modulus⟩, ⟨f_check_number, defAt_mk X G a_check_number l_check_number c_check_number k_check_number⟩, ⟨f_law_matrix, defAt_mk X G a_law_matrix l_law_matrix c_law_matrix k_law_matrix⟩, ⟨f_are_vectors, defAt_mk X G a_are_vectors l_are_vectors c_are_vectors k_are_vectors⟩, ⟨f_check_vector, defAt_mk X G a_check_vector l_check_vector c_check_vector k_check_vector⟩, ⟨f_check_vector_of, defAt_mk X G a_check_vector_of l_check_vector_of c_check_vector_of k_check_vector_of⟩, ⟨f_check_matrix, defAt_mk X G a_check_matrix l_check_matrix c_check_matrix k_check_matrix⟩, ⟨f_scaled, defAt_mk X G a_scaled l_scaled c_scaled k_scaled⟩, ⟨f_added, defAt_mk X G a_added l_added c_added k_added⟩, ⟨f_dot, defAt_mk X G a_dot l_dot c_dot k_dot⟩, ⟨f_combination, defAt_mk X G a_combination l_combination c_combination k_combination⟩, ⟨f_product, defAt_mk X G a_product l_product c_product k_product⟩, ⟨f_transposed, defAt_mk X G a_transposed l_transposed c_transposed k_transposed⟩, ⟨f_law_sums_right, defAt_mk X G a_law_sums_right l_law_sums_right c_law_sums_right k_law_sums_right⟩, ⟨f_law_products_right, defAt_mk X G a_law_products_right l_law_products_right c_law_products_right k_law_products_right⟩, ⟨f_law, defAt_mk X G a_law l_law c_law k_law⟩⟩
  have e := hfa.symm.trans (PySem.W.mg_of X G a_law)
  cases e
  exact fun B => g_law M (defAt_mk X G a_law l_law c_law k_law)
end
theorem value (ns : List Int) (hl : ns.length ≤ 63) (hb : ∀ z ∈ ns, Builtin.Int.intBits z ≤ 1048576) : ∃ S', F_law [.frz (ns.map D.int)] [] = .ok (.bl true) S' := law_true ns []
end EV
open PySem PySem.W PyProof.Rows
set_option maxRecDepth 100000 in
set_option maxHeartbeats 0 in
theorem PySem.Challenge.cw_driveends_k03_vector_arithmetic_holds : PySem.Challenge.rw_driveends_k03_vector_arithmetic.Holds := by
  w_on; o_law; k_head; (case hw => w_witness2)
  k_fill
  refine EV.walkG (l := PySem.Challenge.rw_driveends_k03_vector_arithmetic) (k := 8) rfl (by decide) rfl ⟨rfl, by decide, by decide⟩ (fun w h Y => PySem.W.kIn_of Y) ?G EV.value
  case G =>
    intro w mg fa h KX G hmg B hB hB2
    refine' EV.all_mk KX G hmg ?a_multiple ?l_multiple ?c_multiple ?k_multiple ?a_dot_product ?l_dot_product ?c_dot_product ?k_dot_product ?a_columns_of ?l_columns_of ?c_columns_of ?k_columns_of ?a_is_int ?l_is_int ?c_is_int ?k_is_int ?a_law_pot ?l_law_pot ?c_law_pot ?k_law_pot ?a_law_take ?l_law_take ?c_law_take ?k_law_take ?a_law_combined ?l_law_combined ?c_law_combined ?k_law_combined ?a_law_columns ?l_law_columns ?c_law_columns ?k_law_columns ?a_combined ?l_combined ?c_combined ?k_combined ?a_is_modulus ?l_is_modulus ?c_is_modulus ?k_is_modulus ?a_is_number ?l_is_number ?c_is_number ?k_is_number ?a_check_width ?l_check_width ?c_check_width ?k_check_width ?a_law_modulus ?l_law_modulus ?c_law_modulus ?k_law_modulus ?a_law_vector ?l_law_vector ?c_law_vector ?k_law_vector ?a_are_numbers ?l_are_numbers ?c_are_numbers ?k_are_numbers ?a_check_modulus ?l_check_modulus ?c_check_modulus ?k_check_modulus ?a_check_number ?l_check_number ?c_check_number ?k_check_number ?a_law_matrix ?l_law_matrix ?c_law_matrix ?k_law_matrix ?a_are_vectors ?l_are_vectors ?c_are_vectors ?k_are_vectors ?a_check_vector ?l_check_vector ?c_check_vector ?k_check_vector ?a_check_vector_of ?l_check_vector_of ?c_check_vector_of ?k_check_vector_of ?a_check_matrix ?l_check_matrix ?c_check_matrix ?k_check_matrix ?a_scaled ?l_scaled ?c_scaled ?k_scaled ?a_added ?l_added ?c_added ?k_added ?a_dot ?l_dot ?c_dot ?k_dot ?a_combination ?l_combination ?c_combination ?k_combination ?a_product ?l_product ?c_product ?k_product ?a_transposed ?l_transposed ?c_transposed ?k_transposed ?a_law_sums_right ?l_law_sums_right ?c_law_sums_right ?k_law_sums_right ?a_law_products_right ?l_law_products_right ?c_law_products_right ?k_law_products_right ?a_law ?l_law ?c_law ?k_law ?z_len ?z_abs ?z_int ?z_max ?z_min ?z_tuple ?z_isinstance ?z_all ?z_sum ?z_range ?z_zip ?z_bool ?z_repr ?m_MAX_MODULUS ?m_MAX_WIDTH ?m_MAX_VECTORS B
    (case a_multiple => k_is)
    (case l_multiple => k_is)
    (case c_multiple => k_is)
    (case k_multiple => k_is)
    (case a_dot_product => k_is)
    (case l_dot_product => k_is)
    (case c_dot_product => k_is)
    (case k_dot_product => k_is)
    (case a_columns_of => k_is)
    (case l_columns_of => k_is)
    (case c_columns_of => k_is)
    (case k_columns_of => k_is)
    (case a_is_int => k_is)
    (case l_is_int => k_is)
    (case c_is_int => k_is)
    (case k_is_int => k_is)
    (case a_law_pot => k_is)
    (case l_law_pot => k_is)
    (case c_law_pot => k_is)
    (case k_law_pot => k_is)
    (case a_law_take => k_is)
    (case l_law_take => k_is)
    (case c_law_take => k_is)
    (case k_law_take => k_is)
    (case a_law_combined => k_is)
    (case l_law_combined => k_is)
    (case c_law_combined => k_is)
    (case k_law_combined => k_is)
    (case a_law_columns => k_is)
    (case l_law_columns => k_is)
    (case c_law_columns => k_is)
    (case k_law_columns => k_is)
    (case a_combined => k_is)
    (case l_combined => k_is)
    (case c_combined => k_is)
    (case k_combined => k_is)
    (case a_is_modulus => k_is)
    (case l_is_modulus => k_is)
    (case c_is_modulus => k_is)
    (case k_is_modulus => k_is)
    (case a_is_number => k_is)
    (case l_is_number => k_is)
    (case c_is_number => k_is)
    (case k_is_number => k_is)
    (case a_check_width => k_is)
    (case l_check_width => k_is)
    (case c_check_width => k_is)
    (case k_check_width => k_is)
    (case a_law_modulus => k_is)
    (case l_law_modulus => k_is)
    (case c_law_modulus => k_is)
    (case k_law_modulus => k_is)
    (case a_law_vector => k_is)
    (case l_law_vector => k_is)
    (case c_law_vector => k_is)
    (case k_law_vector => k_is)
    (case a_are_numbers => k_is)
    (case l_are_numbers => k_is)
    (case c_are_numbers => k_is)
    (case k_are_numbers => k_is)
    (case a_check_modulus => k_is)
    (case l_check_modulus => k_is)
    (case c_check_modulus => k_is)
    (case k_check_modulus => k_is)
    (case a_check_number => k_is)
    (case l_check_number => k_is)
    (case c_check_number => k_is)
    (case k_check_number => k_is)
    (case a_law_matrix => k_is)
    (case l_law_matrix => k_is)
    (case c_law_matrix => k_is)
    (case k_law_matrix => k_is)
    (case a_are_vectors => k_is)
    (case l_are_vectors => k_is)
    (case c_are_vectors => k_is)
    (case k_are_vectors => k_is)
    (case a_check_vector => k_is)
    (case l_check_vector => k_is)
    (case c_check_vector => k_is)
    (case k_check_vector => k_is)
    (case a_check_vector_of => k_is)
    (case l_check_vector_of => k_is)
    (case c_check_vector_of => k_is)
    (case k_check_vector_of => k_is)
    (case a_check_matrix => k_is)
    (case l_check_matrix => k_is)
    (case c_check_matrix => k_is)
    (case k_check_matrix => k_is)
    (case a_scaled => k_is)
    (case l_scaled => k_is)
    (case c_scaled => k_is)
    (case k_scaled => k_is)
    (case a_added => k_is)
    (case l_added => k_is)
    (case c_added => k_is)
    (case k_added => k_is)
    (case a_dot => k_is)
    (case l_dot => k_is)
    (case c_dot => k_is)
    (case k_dot => k_is)
    (case a_combination => k_is)
    (case l_combination => k_is)
    (case c_combination => k_is)
    (case k_combination => k_is)
    (case a_product => k_is)
    (case l_product => k_is)
    (case c_product => k_is)
    (case k_product => k_is)
    (case a_transposed => k_is)
    (case l_transposed => k_is)
    (case c_transposed => k_is)
    (case k_transposed => k_is)
    (case a_law_sums_right => k_is)
    (case l_law_sums_right => k_is)
    (case c_law_sums_right => k_is)
    (case k_law_sums_right => k_is)
    (case a_law_products_right => k_is)
    (case l_law_products_right => k_is)
    (case c_law_products_right => k_is)
    (case k_law_products_right => k_is)
    (case a_law => k_is)
    (case l_law => k_is)
    (case c_law => k_is)
    (case k_law => k_is)
    (case z_len => k_is)
    (case z_abs => k_is)
    (case z_int => k_is)
    (case z_max => k_is)
    (case z_min => k_is)
    (case z_tuple => k_is)
    (case z_isinstance => k_is)
    (case z_all => k_is)
    (case z_sum => k_is)
    (case z_range => k_is)
    (case z_zip => k_is)
    (case z_bool => k_is)
    (case z_repr => k_is)
    (case m_MAX_MODULUS => k_is)
    (case m_MAX_WIDTH => k_is)
    (case m_MAX_VECTORS => k_is)
namespace EV
end EV

