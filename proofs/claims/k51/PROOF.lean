import PyProof.Rows.All
import Wide.All
import OpenK.AllK
import Wide.FinOn
import HandS.ForMost
import HandS.Flow
import HandS.Style
import HandS.Wide
import HandS.IsInst
import HandS.Property
import HandS.Defaults
import HandS.HeadHook2
import HandS.HeadNt
import HandS.MakeKw
import HandS.Walk
import PyProof.InstNe
import KE.GoesEnumKw
import HandS.Iter
import HandS.Flt
import HandS.TryOnly
import HandS.Ends
import PyProof.ReprRoads
import HandS.Zip
import KE.KDictZip
import HandS.SortKw
import HandS.Star
import HandS.SortRule
import HandS.Strs
import HandS.SetFor
import KE.DatumOrd
import KE.KEqDeep
import PyProof.ReprLen
import PySem.Challenge.RW_evenbits_k51_least_buffers_and_their_pie
import Lean
import KE.KStateDown
import HandS.Head0
import HandS.Head1
import HandS.Head2
import HandS.HeadEnd
import HandS.WideBits
set_option Elab.async false
set_option linter.all false
set_option maxRecDepth 100000
set_option maxHeartbeats 4000000
namespace Ev
open PySem PySem.Spec PyProof.Rows L2
def Fr (J : List Addr) (H H' : Hp) : Prop := ∀ a o, a ∉ J → H a = some o → H' a = some o
theorem Fr.refl {J : List Addr} (H : Hp) : Fr J H H := fun _ _ _ h => h
theorem Fr.trans {J : List Addr} {H H1 H2 : Hp} (a : Fr J H H1) (b : Fr J H1 H2) : Fr J H H2 := fun x o hx h => b x o hx (a x o hx h)
theorem Fr.up {J J' : List Addr} {H H1 : Hp} (a : Fr J H H1) (s : ∀ x, x ∈ J → x ∈ J') : Fr J' H H1 := fun x o hx h => a x o (fun z => hx (s x z)) h
theorem Fr.up0 {J : List Addr} {H H1 : Hp} (a : Fr [] H H1) : Fr J H H1 := a.up fun _ z => nomatch z
theorem Fr.new {J : List Addr} {H H1 : Hp} {p : Addr} {o : HO} (a : Fr J H H1) (hp : H1 p = none) : Fr J H (upd H1 p o) := fun x u hx h => by
  have h1 := a x u hx h
  rw [upd_ne (ne_of_none h1 hp)]
  exact h1
theorem Fr.get {J : List Addr} {H H1 : Hp} (a : Fr J H H1) {x : Addr} {o : HO} (h : H x = some o) (hx : x ∉ J) : H1 x = some o := a x o hx h
theorem Fr.sql {J : List Addr} {K : PySem.W.Frag} {H H1 : Hp} (a : Fr J H H1) {x : Addr} {xs : List V} (h : SqL K H x xs) (hx : x ∉ J) : SqL K H1 x xs := by
  rcases h with (h | ⟨o, h⟩) | h
  · exact .inl (.inl (a x _ hx h))
  · exact .inl (.inr ⟨o, a x _ hx h⟩)
  · exact .inr h
theorem Fr.sqt {J : List Addr} {K : PySem.W.Frag} {H H1 : Hp} (a : Fr J H H1) {x : Addr} {xs : List V} (h : SqT K H x xs) (hx : x ∉ J) : SqT K H1 x xs := by
  rcases h with (h | ⟨o, h⟩) | h
  · exact .inl (.inl (a x _ hx h))
  · exact .inl (.inr ⟨o, a x _ hx h⟩)
  · exact .inr h
/-- the addresses of a list of entries -/
def HL (H : Hp) (N : List (Addr × HO)) : Prop := (N.map (·.1)).Nodup ∧ ∀ q ∈ N, H q.1 = some q.2
def New (H H' : Hp) (N : List (Addr × HO)) : Prop := HL H' N ∧ ∀ q ∈ N, H q.1 = none
abbrev En := Nat × Addr × HO
/-- entries: 0 stood at the entry and stays, 1 stood at the entry and may change, 2 is new -/
structure Z (H0 H : Hp) (E : List En) : Prop where
  nd : (E.map (·.2.1)).Nodup
  at_ : ∀ q ∈ E, H q.2.1 = some q.2.2
  fresh : ∀ q ∈ E, q.1 = 2 → H0 q.2.1 = none
  fr : ∀ a o, (∀ q ∈ E, q.1 = 1 → q.2.1 ≠ a) → H0 a = some o → H a = some o
section
variable {H0 H H' : Hp} {E : List En}
theorem Z.get (z : Z H0 H E) {t : Nat} {a : Addr} {o : HO} (h : (t, a, o) ∈ E) : H a = some o := z.at_ _ h
theorem Z.start0 (H : Hp) : Z H H [] := ⟨List.nodup_nil, (fun _ h => nomatch h), (fun _ h => nomatch h), fun _ _ _ h => h⟩
theorem Z.old (z : Z H0 H E) {a : Addr} {o : HO} (t : Nat) (ht : t ≠ 2) (h : H a = some o) (hn : ∀ q ∈ E, q.2.1 ≠ a) : Z H0 H ((t, a, o) :: E) :=
  ⟨by
    rw [List.map_cons, List.nodup_cons]
    refine ⟨fun m => ?_, z.nd⟩
    obtain ⟨q, hq, e⟩ := List.mem_map.mp m
    exact hn q hq e,
  fun q hq => by
    rcases List.mem_cons.mp hq with rfl | hq
    · exact h
    · exact z.at_ q hq,
  fun q hq e => by
    rcases List.mem_cons.mp hq with rfl | hq
    · exact absurd e ht
    · exact z.fresh q hq e,
  fun b u hb h' => z.fr b u (fun q hq => hb q (List.mem_cons_of_mem _ hq)) h'⟩
theorem Z.new (z : Z H0 H E) {p : Addr} {o : HO} (hp : H p = none) (h0 : H0 p = none) : Z H0 (upd H p o) ((2, p, o) :: E) := by
  have hn : ∀ q ∈ E, q.2.1 ≠ p := fun q hq => ne_of_none (z.at_ q hq) hp
  refine ⟨?_, fun q hq => ?_, fun q hq e => ?_, fun b u hb h' => ?_⟩
  · rw [List.map_cons, List.nodup_cons]
    refine ⟨fun m => ?_, z.nd⟩
    obtain ⟨q, hq, e⟩ := List.mem_map.mp m
    exact hn q hq e
  · rcases List.mem_cons.mp hq with rfl | hq
    · exact upd_same
    · rw [upd_ne (hn q hq)]
      exact z.at_ q hq
  · rcases List.mem_cons.mp hq with rfl | hq
    · exact h0
    · exact z.fresh q hq e
  · have h1 := z.fr b u (fun q hq => hb q (List.mem_cons_of_mem _ hq)) h'
    rw [upd_ne (ne_of_none h1 hp)]
    exact h1
/-- new at the heap is new at the entry's, as long as all that may change is known -/
theorem Z.none (z : Z H0 H E) {p : Addr} (hp : H p = none) : H0 p = none := by
  cases e : H0 p with
  | none => rfl
  | some o =>
    have h1 := z.fr p o (fun q hq _ => ne_of_none (z.at_ q hq) hp) e
    rw [hp] at h1
    cases h1
theorem Z.alloc (z : Z H0 H E) {p : Addr} (o : HO) (hp : H p = Option.none) : Z H0 (upd H p o) ((2, p, o) :: E) := z.new hp (z.none hp)
theorem mem_set_of {α : Type} {l : List α} {i : Nat} {x y : α} (h : y ∈ l.set i x) : y = x ∨ ∃ j, j ≠ i ∧ l[j]? = some y := by
  obtain ⟨j, hj, e⟩ := List.mem_iff_getElem.mp h
  rw [List.getElem_set] at e
  by_cases hij : i = j
  · rw [if_pos hij] at e
    exact .inl e.symm
  · rw [if_neg hij] at e
    refine .inr ⟨j, fun z => hij z.symm, ?_⟩
    rw [List.getElem?_eq_getElem (by rw [List.length_set] at hj; exact hj), e]
theorem Z.other (z : Z H0 H E) {i j : Nat} {q r : En} (hi : E[i]? = some q) (hj : E[j]? = some r) (h : j ≠ i) : r.2.1 ≠ q.2.1 := fun e => by
  have h1 : (E.map (·.2.1))[i]? = some q.2.1 := by rw [List.getElem?_map, hi] <;> rfl
  have h2 : (E.map (·.2.1))[j]? = some r.2.1 := by rw [List.getElem?_map, hj] <;> rfl
  rw [e] at h2
  obtain ⟨g1, e1⟩ := List.getElem?_eq_some_iff.mp h1
  obtain ⟨g2, e2⟩ := List.getElem?_eq_some_iff.mp h2
  exact h ((List.getElem_inj z.nd).mp (e2.trans e1.symm))
theorem map_set_same {i : Nat} {t : Nat} {a : Addr} {o o' : HO} (h : E[i]? = some (t, a, o)) : (E.set i (t, a, o')).map (·.2.1) = E.map (·.2.1) := by
  rw [List.map_set]
  have h1 : (E.map (·.2.1))[i]? = some a := by rw [List.getElem?_map, h] <;> rfl
  obtain ⟨g1, e1⟩ := List.getElem?_eq_some_iff.mp h1
  refine List.ext_getElem (by simp) fun k k1 k2 => ?_
  rw [List.getElem_set]
  split
  · rename_i e
    subst e
    exact e1.symm
  · rfl
/-- the heap changed at the i-th entry alone -/
theorem Z.move (z : Z H0 H E) (i : Nat) {t : Nat} {a : Addr} {o o' : HO} (hi : E[i]? = some (t, a, o)) (ht : t = 1 ∨ t = 2) (ha : H' a = some o') (f : Fr [a] H H') : Z H0 H' (E.set i (t, a, o')) := by
  have hin := List.mem_of_getElem? hi
  refine ⟨?_, fun q hq => ?_, fun q hq e => ?_, fun b u hb h' => ?_⟩
  · rw [map_set_same hi]
    exact z.nd
  · rcases mem_set_of hq with rfl | ⟨j, hj, e⟩
    · exact ha
    · exact f _ _ (by
        intro m
        rcases List.mem_cons.mp m with m | m
        · exact z.other hi e hj m
        · cases m) (z.at_ q (List.mem_of_getElem? e))
  · rcases mem_set_of hq with rfl | ⟨j, hj, e2⟩
    · exact z.fresh (t, a, o) hin e
    · exact z.fresh q (List.mem_of_getElem? e2) e
  · have hba : b ≠ a := fun e => by
      subst e
      rcases ht with rfl | rfl
      · exact hb (1, b, o') (List.mem_iff_getElem?.mpr ⟨i, by rw [List.getElem?_set_self (List.getElem?_eq_some_iff.mp hi).1]⟩) rfl rfl
      · have := z.fresh _ hin rfl
        rw [h'] at this
        cases this
    have h1 := z.fr b u (fun q hq e1 e2 => by
      obtain ⟨j, hj⟩ := List.mem_iff_getElem?.mp hq
      by_cases hji : j = i
      · subst hji
        rw [hi] at hj
        cases hj
        exact hba e2.symm
      · exact hb q (List.mem_iff_getElem?.mpr ⟨j, by rw [List.getElem?_set_ne (Ne.symm hji)]; exact hj⟩) e1 e2) h'
    exact f b u (fun m => by
      rcases List.mem_cons.mp m with m | m
      · exact hba m
      · cases m) h1
theorem Z.set (z : Z H0 H E) (i : Nat) {t : Nat} {a : Addr} {o : HO} (o' : HO) (hi : E[i]? = some (t, a, o)) (ht : t = 1 ∨ t = 2) : Z H0 (upd H a o') (E.set i (t, a, o')) :=
  z.move i hi ht upd_same fun b u hb h => by
    rw [upd_ne (fun e => hb (by rw [e]; exact List.mem_cons_self))]
    exact h
theorem Z.same (z : Z H0 H E) (f : Fr [] H H') : Z H0 H' E := ⟨z.nd, fun q hq => f _ _ (fun m => nomatch m) (z.at_ q hq), z.fresh, fun a o ha h => f _ _ (fun m => nomatch m) (z.fr a o ha h)⟩
/-- what came new -/
theorem Z.adds (z : Z H0 H' E) {N : List (Addr × HO)} (n : HL H' N) (h0 : ∀ q ∈ N, H0 q.1 = Option.none) (hd : ∀ q ∈ N, ∀ e ∈ E, e.2.1 ≠ q.1) : Z H0 H' (N.map (fun q => ((2, q.1, q.2) : En)) ++ E) := by
  refine ⟨?_, fun q hq => ?_, fun q hq e => ?_, fun b u hb h' => ?_⟩
  · rw [List.map_append, List.nodup_append]
    refine ⟨?_, z.nd, fun x hx y hy e => ?_⟩
    · have e : (N.map (fun q => ((2, q.1, q.2) : En))).map (·.2.1) = N.map (·.1) := by rw [List.map_map]; rfl
      rw [e]
      exact n.1
    · obtain ⟨q, hq, rfl⟩ := List.mem_map.mp hx
      obtain ⟨q', hq', rfl⟩ := List.mem_map.mp hq
      obtain ⟨r, hr, rfl⟩ := List.mem_map.mp hy
      exact hd q' hq' r hr e.symm
  · rcases List.mem_append.mp hq with hq | hq
    · obtain ⟨q', hq', rfl⟩ := List.mem_map.mp hq
      exact n.2 q' hq'
    · exact z.at_ q hq
  · rcases List.mem_append.mp hq with hq | hq
    · obtain ⟨q', hq', rfl⟩ := List.mem_map.mp hq
      exact h0 q' hq'
    · exact z.fresh q hq e
  · exact z.fr b u (fun q hq => hb q (List.mem_append_right _ hq)) h'
/-- behind a call that changes the i-th entry and makes N -/
theorem Z.call (z : Z H0 H E) (i : Nat) {t : Nat} {a : Addr} {o o' : HO} {N : List (Addr × HO)} (hi : E[i]? = some (t, a, o)) (ht : t = 1 ∨ t = 2) (ha : H' a = some o') (f : Fr [a] H H') (n : New H H' N) : Z H0 H' (N.map (fun q => ((2, q.1, q.2) : En)) ++ E.set i (t, a, o')) := by
  refine (z.move i hi ht ha f).adds n.1 (fun q hq => z.none (n.2 q hq)) fun q hq e he => ?_
  rcases mem_set_of he with rfl | ⟨j, hj, e2⟩
  · exact ne_of_none (z.at_ (t, a, o) (List.mem_of_getElem? hi)) (n.2 q hq)
  · exact ne_of_none (z.at_ _ (List.mem_of_getElem? e2)) (n.2 q hq)
/-- behind a call that makes N alone -/
theorem Z.call0 (z : Z H0 H E) {N : List (Addr × HO)} (f : Fr [] H H') (n : New H H' N) : Z H0 H' (N.map (fun q => ((2, q.1, q.2) : En)) ++ E) :=
  (z.same f).adds n.1 (fun q hq => z.none (n.2 q hq)) fun q hq e he => ne_of_none (z.at_ _ he) (n.2 q hq)
/-- entries forgotten, but those that may change -/
theorem Z.sub (z : Z H0 H E) {E' : List En} (s : E'.Sublist E) (k : ∀ q ∈ E, q.1 = 1 → q ∈ E') : Z H0 H E' :=
  ⟨(s.map _).nodup z.nd, fun q hq => z.at_ q (s.subset hq), fun q hq => z.fresh q (s.subset hq), fun a o ha h => z.fr a o (fun q hq e => ha q (k q hq e) e) h⟩
theorem Z.fr0 (z : Z H0 H E) (h : ∀ q ∈ E, q.1 ≠ 1) : Fr [] H0 H := fun a o _ e => z.fr a o (fun q hq e1 => absurd e1 (h q hq)) e
theorem Z.keep (z : Z H0 H E) {a : Addr} {o : HO} (h : H0 a = some o) (n : ∀ q ∈ E, q.1 = 1 → q.2.1 ≠ a) : H a = some o := z.fr a o n h
theorem Z.comp (z : Z H0 H E) {D : Addr} {o : HO} (f : Fr [] H H') (h0 : H D = Option.none) (h1 : H' D = some o) : Z H0 H' ((2, D, o) :: E) := by
  refine z.call0 (N := [(D, o)]) f ⟨⟨List.nodup_cons.mpr ⟨(fun m => nomatch m), List.nodup_nil⟩, fun q hq => ?_⟩, fun q hq => ?_⟩
  · rcases List.mem_cons.mp hq with rfl | hq
    · exact h1
    · cases hq
  · rcases List.mem_cons.mp hq with rfl | hq
    · exact h0
    · cases hq
theorem Z.ne (z : Z H0 H E) (i j : Nat) {q r : En} (hi : E[i]? = some q) (hj : E[j]? = some r) (h : j ≠ i) : r.2.1 ≠ q.2.1 := z.other hi hj h
/-- of the new ones those by their places -/
theorem Z.made (z : Z H0 H E) {N : List (Addr × HO)} (s : (N.map (fun q => ((2, q.1, q.2) : En))).Sublist E) : New H0 H N := by
  refine ⟨⟨?_, fun q hq => z.at_ (2, q.1, q.2) (s.subset (List.mem_map.mpr ⟨q, hq, rfl⟩))⟩, fun q hq => z.fresh (2, q.1, q.2) (s.subset (List.mem_map.mpr ⟨q, hq, rfl⟩)) rfl⟩
  have := (s.map (·.2.1)).nodup z.nd
  rw [List.map_map] at this
  exact this
end
section
variable {K : PySem.W.Frag} {σ : L2.St} {H : Hp} {Q : VK} {QB : Bool → Hp → Prop} {D : Ends} {t u : TS} {ta tb tc te : TE} {tt tu : TT} {tas : TA} {v x y : V} {n i j : Int} {C : Int → Int → Prop} {g : Int → Int → V} {G : TG} {p a : Addr} {xs : List V} {r : R2}
theorem r_seq (h : t { D with nx := u D } σ H) : tSeq t u D σ H := h
theorem r_asg (h : te σ H fun x H1 => G x σ H1 D.nx) : tAsg te G D σ H := h
theorem r_ret (h : te σ H D.rt) : tRet te D σ H := h
theorem r_drop (h : te σ H fun _ H1 => D.nx σ H1) : tDrop te D σ H := h
theorem r_next (h : D.nx σ H) : tNext D σ H := h
theorem r_ifs (h : tt σ H fun b H1 => if b = true then t D σ H1 else u D σ H1) : tIfS tt t u D σ H := h
theorem r_var {k : Nat} (h : σ[k]? = some (some v)) (q : Q v H) : tVar k σ H Q := ⟨v, h, q⟩
theorem r_c (q : Q v H) : tC v σ H Q := q
theorem r_op (h : ta σ H fun x H1 => tb σ H1 fun y H2 => r x y H2 Q) : tOp r ta tb σ H Q := h
theorem r_un {r : V → Hp → VK → Prop} (h : ta σ H fun x H1 => r x H1 Q) : tUn r ta σ H Q := h
theorem r_I0 (q : Q (g i j) H) : rI0 g (.int i) (.int j) H Q := ⟨i, j, rfl, rfl, q⟩
theorem r_I (c : C i j) (q : Q (g i j) H) : rI C g (.int i) (.int j) H Q := ⟨i, j, rfl, rfl, c, q⟩
theorem r_U {g : Int → V} (q : Q (g i) H) : rU g (.int i) H Q := ⟨i, rfl, q⟩
theorem r_test (h : te σ H fun x H' => ∃ k, x = .bl k ∧ QB k H') : tTest te σ H QB := h
theorem r_B (h : te σ H fun x H' => ∃ k, x = .bl k ∧ QB k H') : tB te σ H QB := h
theorem r_and (h : tt σ H fun c H1 => if c = true then tu σ H1 QB else QB false H1) : tAnd tt tu σ H QB := h
theorem r_or (h : tt σ H fun c H1 => if c = true then QB true H1 else tu σ H1 QB) : tOr tt tu σ H QB := h
theorem r_not (h : tt σ H fun c H1 => QB (!c) H1) : tNot tt σ H QB := h
theorem r_andV (h : ta σ H fun x H1 => ∃ c, x = .bl c ∧ if c = true then tb σ H1 Q else Q (.bl false) H1) : tAndV ta tb σ H Q := h
theorem r_orV (h : ta σ H fun x H1 => ∃ c, x = .bl c ∧ if c = true then Q (.bl true) H1 else tb σ H1 Q) : tOrV ta tb σ H Q := h
theorem r_notV (h : ta σ H fun x H1 => ∃ c, x = .bl c ∧ Q (.bl (!c)) H1) : tNotV ta σ H Q := h
theorem r_exif {b : Bool} {P : Bool → Prop} (h : P b) : ∃ c, V.bl b = V.bl c ∧ P c := ⟨b, rfl, h⟩
theorem r_if (h : tt σ H fun c H1 => if c = true then ta σ H1 Q else tb σ H1 Q) : tIf tt ta tb σ H Q := h
theorem r_name {k : Nat} {R : L2.St → Hp → Prop} (h : R (σ.set k (some v)) H) : gName k v σ H R := h
theorem r_gtup {k : Nat} {T : TGs} {R : L2.St → Hp → Prop} (h : SqT K H a xs) (e : xs.length = k) (q : T xs σ H R) : gTup K k T (.ref a) σ H R := ⟨a, xs, rfl, h, e, q⟩
theorem r_gcons {T : TGs} {R : L2.St → Hp → Prop} {vs : List V} (q : G v σ H fun σ' H' => T vs σ' H' R) : gCons G T (v :: vs) σ H R := ⟨v, vs, rfl, q⟩
theorem r_gnil {R : L2.St → Hp → Prop} (q : R σ H) : gNil [] σ H R := ⟨rfl, q⟩
theorem r_gsub {T : TSet} {R : L2.St → Hp → Prop} (h : ta σ H fun o H1 => tb σ H1 fun i H2 => T o i v H2 fun H3 => R σ H3) : gSub ta tb T v σ H R := h
theorem r_setL {R : Hp → Prop} {k : Int} (h : H p = some (.lst xs)) (q : ∃ m, ixN xs.length k = some m ∧ R (upd H p (.lst (xs.set m v)))) : rSetL (.ref p) (.int k) v H R := by
  obtain ⟨m, e, q⟩ := q
  exact ⟨p, xs, k, m, rfl, rfl, h, e, q⟩
theorem r_tup (h : tas σ H fun xs H1 => xs.length ≤ sizeLine ∧ ∀ p, H1 p = none → Q (.ref p) (upd H1 p (.tup xs))) : tTup tas σ H Q := h
theorem r_lst (h : tas σ H fun xs H1 => xs.length ≤ sizeLine ∧ ∀ p, H1 p = none → Q (.ref p) (upd H1 p (.lst xs))) : tLst tas σ H Q := h
theorem r_mk {P : Prop} (e : xs.length ≤ sizeLine) (h : P) : xs.length ≤ sizeLine ∧ P := ⟨e, h⟩
theorem iteNT {A B : Prop} (h : B) : if (!true) = true then A else B := iteF h
theorem iteNF {A B : Prop} (h : A) : if (!false) = true then A else B := iteT h
theorem r_cons {R : List V → Hp → Prop} (h : ta σ H fun x H1 => tas σ H1 fun xs H2 => R (x :: xs) H2) : tCons ta tas σ H R := h
theorem r_nil {R : List V → Hp → Prop} (h : R [] H) : tNil σ H R := h
theorem r_cb {rr : List V → Hp → VK → Prop} (h : tas σ H fun vs H1 => rr vs H1 Q) : tCB rr tas σ H Q := h
theorem r_call {sp : Sp} {dvs : List V} {E : XK} (h : tas σ H fun vs H1 => sp (vs ++ dvs) H1 Q E) : tCall sp dvs E tas σ H Q := h
theorem r_ixL (h : SqL K H p xs) (q : ∃ v, atI xs i = some v ∧ Q v H) : rIxL K (.ref p) (.int i) H Q := by
  obtain ⟨v, e, q⟩ := q
  exact ⟨p, xs, i, v, rfl, rfl, h, e, q⟩
theorem r_ixT (h : SqT K H p xs) (q : ∃ v, atI xs i = some v ∧ Q v H) : rIxT K (.ref p) (.int i) H Q := by
  obtain ⟨v, e, q⟩ := q
  exact ⟨p, xs, i, v, rfl, rfl, h, e, q⟩
theorem r_at {P : V → Prop} (e : atI xs i = some v) (q : P v) : ∃ v, atI xs i = some v ∧ P v := ⟨v, e, q⟩
theorem r_ixn {k : Int} {m n : Nat} {P : Nat → Prop} (e : ixN n k = some m) (q : P m) : ∃ m, ixN n k = some m ∧ P m := ⟨m, e, q⟩
theorem r_ixSL (q : rIxL K x y H Q) : rIx K x y H Q := .inl q
theorem r_ixST (q : rIxT K x y H Q) : rIx K x y H Q := .inr (.inl q)
theorem r_sfld {f : Str} (h : te σ H fun y H1 => ta σ H1 fun x H2 => ∃ a C dx fs, x = .ref a ∧ H2 a = some (.ins C dx fs) ∧ Cls K C ∧ NoAttr K C f ∧ fs.length < 1000 ∧ D.nx σ (upd H2 a (.ins C dx (putF f y fs)))) : sFld K ta te f D σ H := h
theorem r_fld {f : Str} (h : ta σ H fun x H1 => ∃ a C dx fs v, x = .ref a ∧ H1 a = some (.ins C dx fs) ∧ Cls K C ∧ NoAttr K C f ∧ fs.lookup f = some v ∧ Q v H1) : tFld K ta f σ H Q := h
theorem r_bm {T : String} {rr : V → List V → Hp → VK → Prop} (h : ta σ H fun x H1 => tyV K T x H1 ∧ tas σ H1 fun xs H2 => rr x xs H2 Q) : tBM K T rr ta tas σ H Q := h
theorem r_app (h : H p = some (.lst xs)) (e : xs.length < sizeLine) (q : Q .non (upd H p (.lst (xs ++ [y])))) : rAppend (.ref p) [y] H Q := ⟨p, xs, y, rfl, rfl, h, e, q⟩
theorem r_tyL {P : Prop} (h : H p = some (.lst xs)) (q : P) : tyV K "list" (.ref p) H ∧ P := ⟨.inl ⟨rfl, _, SqL.of h⟩, q⟩
theorem r_sl {rr : V → Option Int → Option Int → Hp → VK → Prop} {tl th : TO} (h : te σ H fun x H1 => tl σ H1 fun l H2 => th σ H2 fun u H3 => rr x l u H3 Q) : tSl rr te tl th σ H Q := h
theorem r_part {R : Option Int → Hp → Prop} (h : te σ H fun x H1 => ∃ i, x = .int i ∧ R (some i) H1) : tPart te σ H R := h
theorem r_exint {R : Int → Prop} (h : R i) : ∃ k, V.int i = V.int k ∧ R k := ⟨i, rfl, h⟩
theorem r_nopart {R : Option Int → Hp → Prop} (h : R none H) : tNoPart σ H R := h
theorem r_slL {lo hi : Option Int} (h : SqL K H a xs) (q : ∀ p, H p = none → Q (.ref p) (upd H p (.lst (cutV xs lo hi)))) : rSlL K (.ref a) lo hi H Q := ⟨a, xs, rfl, h, q⟩
theorem r_revL (h : te σ H fun x H1 => ∃ a xs, x = .ref a ∧ SqL K H1 a xs ∧ ∀ p, H1 p = none → Q (.ref p) (upd H1 p (.lst xs.reverse))) : tRevL K te σ H Q := h
theorem r_exrev {P : List V → Prop} (h : SqL K H a xs) (q : P xs) : ∃ b ys, V.ref a = .ref b ∧ SqL K H b ys ∧ P ys := ⟨a, xs, rfl, h, q⟩
theorem r_cat {l b : Addr} {zs : List V} (h1 : H l = some (.lst xs)) (h2 : H b = some (.lst zs)) (e : xs.length + zs.length ≤ sizeLine) (q : ∀ p, H p = none → Q (.ref p) (upd H p (.lst (xs ++ zs)))) : rCat (.ref l) (.ref b) H Q := ⟨l, b, xs, zs, rfl, rfl, h1, h2, e, q⟩
theorem r_eq (h : scal x y = true) (q : Q (.bl (decide (x = y))) H) : rEq x y H Q := ⟨h, q⟩
theorem r_ne (h : scal x y = true) (q : Q (.bl (!decide (x = y))) H) : rNe x y H Q := ⟨h, q⟩
theorem r_chain {r' : R2} (h : ta σ H fun x H1 => tb σ H1 fun y H2 => r x y H2 fun z H3 => ∃ k, z = .bl k ∧ (if k = true then tc σ H3 fun w' H4 => r' y w' H4 Q else Q (.bl false) H3)) : tChain r r' ta tb tc σ H Q := h
theorem r_ite {c A B : Prop} [Decidable c] (h1 : c → A) (h2 : ¬ c → B) : if decide c = true then A else B := ite2 (fun z => h1 (of_decide_eq_true z)) fun z => h2 fun y => z (decide_eq_true y)
theorem r_par {k l : Nat} (h : tas σ H fun vs H1 => ∃ v w, vs = [v, w] ∧ D.nx ((σ.set k (some v)).set l (some w)) H1) : tPar k l tas D σ H := h
theorem r_expar {R : V → V → Prop} (h : R x y) : ∃ v w, [x, y] = [v, w] ∧ R v w := ⟨x, y, rfl, h⟩
def ForJ (G : TG) (tb : TS) (D : Ends) (σ : L2.St) (J : It) (H1 : Hp) : Prop := ∃ W : Nat → Nat → L2.St → Hp → Prop, (∃ m, W 0 m σ H1) ∧ ∀ i m σ H, W i m σ H →
  (J.stop i H ∧ D.nx σ H) ∨ (J.go i H ∧ ∃ N : L2.St → Hp → Prop, (∀ σ' H', N σ' H' → ∃ m', m' < m ∧ W (i + 1) m' σ' H') ∧ ∀ x H', J.yld i H x H' → G x σ H' fun σ2 H2 => tb { D with nx := N, ct := N, bk := D.nx } σ2 H2)
theorem r_for {wi : TI} {tb : TS} (h : wi σ H (ForJ G tb D σ)) : tFor wi G tb D σ H := h
def LcJ (G : TG) (tt : TT) (te : TE) (vs : List Nat) (σ : L2.St) (Q : VK) (J : It) (H1 : Hp) : Prop := ∀ D, H1 D = none → ∃ W : Nat → Nat → Hp → Prop, (∃ m, W 0 m (upd H1 D (.lst []))) ∧ ∀ i m H, W i m H →
  (J.stop i H ∧ Q (.ref D) H) ∨ (J.go i H ∧ ∃ Nx : Hp → Prop, (∀ H', Nx H' → ∃ m', m' < m ∧ W (i + 1) m' H') ∧ ∀ x H', J.yld i H x H' → G x (wipe σ vs) H' fun σ2 H2 => wipe σ2 vs = wipe σ vs ∧ tt σ2 H2 fun b H3 =>
    if b = true then te σ2 H3 fun y H4 => ∃ acc, H4 D = some (.lst acc) ∧ acc.length < sizeLine ∧ Nx (upd H4 D (.lst (acc ++ [y]))) else Nx H3)
theorem r_lc {wi : TI} {vs : List Nat} (h : wi σ H (LcJ G tt te vs σ Q)) : tLc wi G tt te vs σ H Q := h
theorem r_ilist {R : It → Hp → Prop} (h : te σ H fun x H1 => ∃ a, x = .ref a ∧ (∃ xs, SqL K H1 a xs) ∧ R (Itl K a) H1) : iList K te σ H R := h
theorem r_exil {P : Addr → Prop} (hs : SqL K H a xs) (h : P a) : ∃ b, V.ref a = .ref b ∧ (∃ xs, SqL K H b xs) ∧ P b := ⟨a, rfl, ⟨xs, hs⟩, h⟩
theorem r_itup {R : It → Hp → Prop} (h : te σ H fun x H1 => ∃ a, x = .ref a ∧ (∃ xs, SqT K H1 a xs) ∧ R (Itt K a) H1) : iTup K te σ H R := h
theorem r_exit {P : Addr → Prop} (hs : SqT K H a xs) (h : P a) : ∃ b, V.ref a = .ref b ∧ (∃ xs, SqT K H b xs) ∧ P b := ⟨a, rfl, ⟨xs, hs⟩, h⟩
theorem r_irng1 {R : It → Hp → Prop} (h : tas σ H fun vs H1 => ∃ j : Int, vs = [.int j] ∧ -(2 ^ 62) ≤ j ∧ j < 2 ^ 62 ∧ R (Itr 0 j.toNat) H1) : iRng1 tas σ H R := h
theorem r_irng2 {R : It → Hp → Prop} (h : tas σ H fun vs H1 => ∃ i j : Int, vs = [.int i, .int j] ∧ (-(2 ^ 62) ≤ i ∧ i < 2 ^ 62 ∧ -(2 ^ 62) ≤ j ∧ j < 2 ^ 62) ∧ R (Itr i (j - i).toNat) H1) : iRng2 tas σ H R := h
theorem r_irng3 {R : It → Hp → Prop} (h : tas σ H fun vs H1 => ∃ (i j c : Int) (n : Nat), vs = [.int i, .int j, .int c] ∧ RgC i j c n ∧ R (Itc i c n) H1) : iRng3 tas σ H R := h
theorem r_izip {R : It → Hp → Prop} (h : tas σ H fun vs H1 => ∃ a b xs ys, vs = [.ref a, .ref b] ∧ SqL K H1 a xs ∧ SqL K H1 b ys ∧ R (Itz K a b) H1) : iZip K tas σ H R := h
theorem r_exz {P : Addr → Addr → Prop} {b : Addr} {ys : List V} (h1 : SqL K H a xs) (h2 : SqL K H b ys) (h : P a b) : ∃ c d xs ys, [V.ref a, V.ref b] = [.ref c, .ref d] ∧ SqL K H c xs ∧ SqL K H d ys ∧ P c d := ⟨a, b, xs, ys, rfl, h1, h2, h⟩
theorem r_ienum {R : It → Hp → Prop} (h : tas σ H fun vs H1 => ∃ a xs, vs = [.ref a] ∧ SqL K H1 a xs ∧ R (Ite K a) H1) : iEnum K tas σ H R := h
theorem r_exen {P : Addr → Prop} (h1 : SqL K H a xs) (h : P a) : ∃ c xs, [V.ref a] = [.ref c] ∧ SqL K H c xs ∧ P c := ⟨a, xs, rfl, h1, h⟩
theorem r_yes (h : QB true H) : tYes σ H QB := h
theorem r_len {P : List V → Prop} (h : SqL K H p xs) (q : P xs) : ∃ r ys, [V.ref p] = [.ref r] ∧ (SqL K H r ys ∨ SqT K H r ys) ∧ P ys := ⟨p, xs, rfl, .inl h, q⟩
theorem r_lenT {P : List V → Prop} (h : SqT K H p xs) (q : P xs) : ∃ r ys, [V.ref p] = [.ref r] ∧ (SqL K H r ys ∨ SqT K H r ys) ∧ P ys := ⟨p, xs, rfl, .inr h, q⟩
theorem r_int1 {P : Int → Prop} {P' : Prop} (q : P i) : (∃ k, [V.int i] = [.int k] ∧ P k) ∨ P' := .inl ⟨i, rfl, q⟩
theorem r_int2 {P : Int → Prop} (q : P i) : ∃ k, [V.int i] = [.int k] ∧ P k := ⟨i, rfl, q⟩
theorem r_int3 {P : Int → Int → Prop} (q : P i j) : ∃ k l, [V.int i, V.int j] = [.int k, .int l] ∧ P k l := ⟨i, j, rfl, q⟩
theorem r_all {bs : List Bool} (h : SqL K H p (bs.map V.bl)) (q : Q (.bl (bs.all id)) H) : rAll K [.ref p] H Q := ⟨p, bs, rfl, h, q⟩
theorem r_allB {bs : List Bool} {b : Bool} (h : SqL K H p (bs.map V.bl)) (e : bs.all id = b) (q : Q (.bl b) H) : rAll K [.ref p] H Q := ⟨p, bs, rfl, h, by rw [e]; exact q⟩
theorem r_isi {b : Bool} {t u : Value} {c : V} (h1 : ClsV c u) (h2 : TyX K H x t) (h3 : PySem.W.kitOne K t u = some b) (q : Q (.bl b) H) : rIsi K [x, c] H Q := ⟨x, c, t, u, b, rfl, h1, h2, h3, q⟩
theorem r_make {sp : Sp} {dvs : List V} {E : XK} {Cc : Addr} (h : tas σ H fun vs H1 => ∀ x dx, H1 x = none → H1 dx = none → dx ≠ x → sp (.ref x :: (vs ++ dvs)) (upd (upd H1 dx (.own x)) x (.ins Cc dx [])) (fun v H2 => v = .non ∧ Q (.ref x) H2) E) : tMake Cc sp dvs E tas σ H Q := h
theorem r_meth {sp : Sp} {dvs : List V} {E : XK} {Cc : Addr} {m : Str} (h : ta σ H fun x H1 => ∃ a dx fs, x = .ref a ∧ H1 a = some (.ins Cc dx fs) ∧ fs.lookup m = none ∧ tas σ H1 fun vs H2 => sp (x :: (vs ++ dvs)) H2 Q E) : tMeth Cc m sp dvs E ta tas σ H Q := h
theorem r_prop {sp : Sp} {dvs : List V} {E : XK} {Cc : Addr} (h : ta σ H fun x H1 => ∃ a dx fs, x = .ref a ∧ H1 a = some (.ins Cc dx fs) ∧ sp (.ref a :: dvs) H1 Q E) : tProp Cc sp dvs E ta σ H Q := h
end
abbrev rLenX (K : PySem.W.Frag) : List V → Hp → VK → Prop := fun xs H Q => ∃ p ys, xs = [.ref p] ∧ (SqL K H p ys ∨ SqT K H p ys) ∧ Q (.int ys.length) H
section
variable {X : Cx}
/-- x ** n of any size below 2 ^ 27 bits -/
def CPowW (i j : Int) : Prop := 0 ≤ j ∧ (Builtin.Int.intBits i : Int) * j ≤ 2 ^ 27
theorem op_powW : OpR X (binaryOp .Pow) (rI CPowW fun i j => .int (i ^ j.toNat)) := opI fun _ _ _ _ _ _ _ hc q => pow_int hc.1 hc.2 q
theorem powW {i j : Int} {b : Nat} (h0 : 0 ≤ j) (hj : j ≤ 100) (hb : i.natAbs < 2 ^ b) (h : b ≤ 1000000) (h1 : 0 < b) : CPowW i j := by
  refine ⟨h0, ?_⟩
  have h2 : Builtin.Int.intBits i ≤ b := by
    unfold Builtin.Int.intBits
    have := PySem.Flt.log2_lt_of h1 hb
    split <;> omega
  have h3 : (Builtin.Int.intBits i : Int) ≤ 1000000 := by omega
  have h4 : (Builtin.Int.intBits i : Int) * j ≤ 1000000 * 100 := Int.mul_le_mul h3 hj h0 (by decide)
  omega
theorem pow10 {j : Int} (h : 0 ≤ j ∧ j ≤ 100) : CPowW 10 j := powW (b := 4) h.1 h.2 (by decide) (by decide) (by decide)
theorem natAbs_lt {x : Int} {n : Nat} (h0 : -(2 ^ n) < x) (h : x < 2 ^ n) : x.natAbs < 2 ^ n := by
  have e : ((2 ^ n : Nat) : Int) = (2 : Int) ^ n := by simp
  omega
end
theorem smalllt' {n : Nat} (h : n ≤ 99999) : n < PySem.sizeLine := Nat.lt_of_lt_of_le (show n < 100000 by omega) (by decide)
theorem small1000' {n : Nat} (h : n ≤ 100000) : n ≤ PySem.sizeLine := Nat.le_trans h (by decide)
set_option Elab.async false
set_option linter.all false
set_option maxRecDepth 100000
set_option maxHeartbeats 4000000
def propB (K : PySem.W.Frag) (C : Addr) (f : Str) : Bool := match PySem.W.findIn K (.ref C) f with
  | some (some (.ref p)) => He.eqO (PySem.W.specialIn K (.ref p) "__get__") (some (some (.builtin "property.__get__"))) && (decide (PySem.W.takesIn K (.ref p) = some true) && (match PySem.W.recIn K p "property" with
    | some (.ref _ :: _) => true
    | _ => false))
  | _ => false
/-- the getter of a property -/
def pgA (C f : Str) (K : PySem.W.Frag) : Addr := match PySem.W.findIn K (.ref (He.ga K C)) f with
  | some (some (.ref p)) => (match PySem.W.recIn K p "property" with
    | some (.ref g :: _) => g
    | _ => 0)
  | _ => 0
theorem propB_ok {K : PySem.W.Frag} {C f : Str} (h : propB K (He.ga K C) f = true) : ∃ p, PropOf K (He.ga K C) f p (pgA C f K) := by
  unfold propB at h
  unfold pgA
  cases e : PySem.W.findIn K (.ref (He.ga K C)) f with
  | none =>
    rw [e] at h
    cases h
  | some r =>
    cases r with
    | none =>
      rw [e] at h
      cases h
    | some u =>
      cases u with
      | ref p =>
        rw [e] at h
        dsimp only at h ⊢
        obtain ⟨h1, h2⟩ := He.ba h
        obtain ⟨h3, h4⟩ := He.ba h2
        cases e2 : PySem.W.recIn K p "property" with
        | none =>
          rw [e2] at h4
          cases h4
        | some l =>
          rw [e2] at h4
          cases l with
          | nil => cases h4
          | cons g r =>
            cases g with
            | ref g => exact ⟨p, e, He.eqO_ok h1, of_decide_eq_true h3, r, e2⟩
            | _ => cases h4
      | _ =>
        rw [e] at h
        cases h
inductive Fb where
  | b (f : He.Fa)
  | prop (C f : Str)
  | findB (C m : Str) (id : String)
  | isi (C : Str)
  | kit (C D : Str) (r : Bool)
  | tyc (C : Str)
def Fb.ok (K : PySem.W.Frag) : Fb → Bool
  | .b f => f.ok K
  | .prop C f => propB K (He.ga K C) f
  | .findB C m id => He.eqO (PySem.W.findIn K (.ref (He.ga K C)) m) (some (some (.builtin id)))
  | .isi C => He.eqO (PySem.W.findIn K (.ref (He.ga K C)) "__class__") (some (some (.builtin "object.__class__"))) && (He.eqO (PySem.W.specialIn K (.builtin "object.__class__") "__get__") (some (some (.builtin "getset_descriptor.__get__"))) &&
      (decide (PySem.W.takesIn K (.builtin "object.__class__") = some true) && decide (PySem.W.mroIn K (He.ga K C) (.type "object") = some true)))
  | .kit C D r => decide (PySem.W.kitOne K (.ref (He.ga K C)) (.ref (He.ga K D)) = some r)
  | .tyc C => (PySem.W.clsIn K (He.ga K C)).isSome && decide (PySem.W.typeIn K (.ref (He.ga K C)) = some (.type "type"))
/-- a def: its address by names -/
structure Df where
  at_ : PySem.W.Frag → Addr
  name : Str
  qual : Str
  st : Stmt
def Df.da (d : Df) : He5.DefA := ⟨d.at_, d.name, d.qual, defArgs d.st, defBody d.st, defScope d.st, [], []⟩
def obsM (fa : List Fb) (fn : List Df) (K : PySem.W.Frag) : He.AlD := ((fa.all fun f => f.ok K) && fn.all fun d => d.da.ok K, fn.map fun d => He5.fnA K (d.at_ K))
def valM (fn : List Df) : He.AlD := (true, fn.map fun d => d.da.val)
def SaysM (fa : List Fb) (fn : List Df) (K : PySem.W.Frag) : Prop := obsM fa fn K = valM fn
def obsMG (n : Nat) (fa : List Fb) (fn : List Df) (g : Addr → Option Obj) : He.AlD := obsM fa fn (He.frG g (He5.asA g n))
def hookM (n : Nat) (fa : List Fb) (fn : List Df) : PySem.W.Hook where
  α := He.AlD
  obs := fun s => obsMG n fa fn s.heap.get?
  val := fun _ => valM fn
  says := fun _ h => ∃ K : PySem.W.Frag, K.In h ∧ SaysM fa fn K
  of := fun _ _ e => ⟨_, He.frG_in, e⟩
  keeps := fun _ _ _ ⟨K, hK, c⟩ k => ⟨K, PySem.W.Frag.In.keeps hK k, c⟩
theorem obsMG_eq {n : Nat} {fa : List Fb} {fn : List Df} {g : Addr → Option Obj} {s : Shared} (h : ∀ a, g a = s.heap.get? a) : obsMG n fa fn g = (hookM n fa fn).obs s := by
  have e : g = s.heap.get? := funext h
  rw [e] <;> rfl
/-- the top's facts, the base heap -/
structure Tx (fa : List Fb) (fn : List Df) (K : PySem.W.Frag) (mg : Str → Option Value) (base : Heap) : Prop where
  says : SaysM fa fn K
  kin : K.In base
  ns : base.Ns mainGlobals mg
section
variable {fa : List Fb} {fn : List Df} {K : PySem.W.Frag} {mg : Str → Option Value} {base : Heap} {P : Program} {w : World}
theorem Tx.fact (T : Tx fa fn K mg base) (i : Nat) {f : Fb} (h : fa[i]? = some f := by rfl) : f.ok K = true := by
  have c1 := (He.ba (show ((fa.all fun f => f.ok K) && fn.all fun d => d.da.ok K) = true from congrArg (fun z : He.AlD => z.1) T.says)).1
  exact List.all_eq_true.mp c1 f (List.mem_of_getElem? h)
theorem Tx.def_ (T : Tx fa fn K mg base) (i : Nat) {d : Df} (h : fn[i]? = some d := by rfl) : ∃ fd, FunD K d.name d.qual (defArgs d.st) (defBody d.st) (defScope d.st) [] [] (d.at_ K) fd := by
  have c2 := (He.ba (show ((fa.all fun f => f.ok K) && fn.all fun d => d.da.ok K) = true from congrArg (fun z : He.AlD => z.1) T.says)).2
  have e : fn.map (fun d => He5.fnA K (d.at_ K)) = fn.map (fun d => d.da.val) := congrArg (fun z : He.AlD => z.2) T.says
  have e2 : (fn.map fun d => He5.fnA K (d.at_ K))[i]? = (fn.map fun d => d.da.val)[i]? := by rw [e]
  rw [List.getElem?_map, List.getElem?_map, h] at e2
  exact He5.DefA.funD (d := d.da) (Option.some.inj e2) (List.all_eq_true.mp c2 d (List.mem_of_getElem? h))
theorem Tx.fr (T : Tx fa fn K mg base) (i : Nat) {x : Str} (h : fa[i]? = some (.b (.free x)) := by rfl) : mg x = none := He.free_ok T.kin T.ns (T.fact i h)
theorem Tx.glo (T : Tx fa fn K mg base) (i : Nat) {x : Str} (h : fa[i]? = some (.b (.glo x)) := by rfl) : mg x = some (.ref (He.ga K x)) := He.glo_ok T.kin T.ns (T.fact i h)
theorem Tx.int (T : Tx fa fn K mg base) (i : Nat) {x : Str} {n : Int} (h : fa[i]? = some (.b (.int x n)) := by rfl) : ∃ t, mg x = some (.int n t) := He.int_ok T.kin T.ns (T.fact i h)
theorem Tx.cls (T : Tx fa fn K mg base) (i : Nat) {x : Str} (h : fa[i]? = some (.b (.cls x)) := by rfl) : Cls K (He.ga K x) := He.cls_ok (T.fact i h)
theorem Tx.prop (T : Tx fa fn K mg base) (i : Nat) {C f : Str} (h : fa[i]? = some (.prop C f) := by rfl) : ∃ p, PropOf K (He.ga K C) f p (pgA C f K) := propB_ok (T.fact i h)
theorem Tx.findB (T : Tx fa fn K mg base) (i : Nat) {C m : Str} {id : String} (h : fa[i]? = some (.findB C m id) := by rfl) : PySem.W.findIn K (.ref (He.ga K C)) m = some (some (.builtin id)) := He.eqO_ok (T.fact i h)
theorem Tx.kit (T : Tx fa fn K mg base) (i : Nat) {C D : Str} {r : Bool} (h : fa[i]? = some (.kit C D r) := by rfl) : PySem.W.kitOne K (.ref (He.ga K C)) (.ref (He.ga K D)) = some r := of_decide_eq_true (T.fact i h)
theorem Tx.isi (T : Tx fa fn K mg base) (i j : Nat) {C : Str} {H : Hp} {a dx : Addr} {fs : List (Str × V)} (e : H a = some (.ins (He.ga K C) dx fs)) (h : fa[i]? = some (.isi C) := by rfl) (hj : fa[j]? = some (.b (.cls C)) := by rfl) : TyX K H (.ref a) (.ref (He.ga K C)) := by
  obtain ⟨h1, h2⟩ := He.ba (T.fact i h)
  obtain ⟨h3, h4⟩ := He.ba h2
  obtain ⟨h5, h6⟩ := He.ba h4
  exact .base (.ins e (T.cls j hj) (He.eqO_ok h1) (He.eqO_ok h3) (of_decide_eq_true h5) (of_decide_eq_true h6))
theorem Tx.tyc (T : Tx fa fn K mg base) (i : Nat) {C : Str} {t : Value} {r : Bool} (n : (t == .ref (He.ga K C)) = false) (e : PySem.W.subIn K t (.ref (He.ga K C)) = some r) (h : fa[i]? = some (.tyc C) := by rfl) : PySem.W.kitOne K t (.ref (He.ga K C)) = some r := by
  obtain ⟨h1, h2⟩ := He.ba (T.fact i h)
  have h3 := of_decide_eq_true h2
  unfold PySem.W.kitOne
  rw [n, if_neg (by decide)]
  unfold PySem.W.kitCls
  dsimp only
  rw [h1, h3, if_pos (by decide)]
  exact e
structure Fk (P : Program) (w : World) (K : PySem.W.Frag) (mg : Str → Option Value) (base : Heap) (x : Str) (ps : List Str) (k : Nat) (sp : Sp) (st : Stmt) (q : Str) : Prop where
  ex : ∃ (f : Addr) (fd : FuncData), FnOk P w K mg base CX0 k f fd ps sp ∧ mg x = some (.ref f) ∧ PySem.W.keepIn K (.ref f) = true ∧ Binds K fd ps [] ∧ FunD K x q (defArgs st) (defBody st) (defScope st) [] [] f fd
/-- what a def's proof is made of -/
def BndOk (d : Df) (ps : List Str) : Prop := ∀ (kV doc pm : Value) (an : Option Addr) (cdv ct : Value) (us : List Value), us.length = ps.length → bindArgs (PySem.W.fnOf d.name d.qual (defArgs d.st) (defBody d.st) (defScope d.st) .none kV doc pm an cdv ct) ⟨us, []⟩ = pure (ps.zip us)
def BodyOk (P : Program) (w : World) (K : PySem.W.Frag) (mg : Str → Option Value) (base : Heap) (d : Df) (N : List Str) (k : Nat) (sp : Sp) : Prop :=
  ∀ (cdv : Value) (A : Around) (outer : List Env) (s : Shared) (H : Hp) (vs : List V) (Q : VK) (E : XK), Room k (A.deeper (envOfC d.qual (defScope d.st) s.heap.objs.size (d.at_ K) cdv)) → sp vs H Q E →
      ∃ t, PSs (cxOf CX0 P w K mg base N d.qual (defScope d.st) (d.at_ K) cdv A outer s H E).nox (defBody d.st) t ∧ t { nx := fun _ H' => Q .non H', rt := Q } (start N vs) H
theorem Tx.ok (T : Tx fa fn K mg base) (i : Nat) {d : Df} {N ps : List Str} {k : Nat} {sp : Sp} (S : FnScope N ps (defScope d.st)) (hb : BndOk d ps) (len : ∀ vs H Q E, sp vs H Q E → vs.length = ps.length) (body : BodyOk P w K mg base d N k sp) (hd : fn[i]? = some d := by rfl) :
    ∃ fd, FnOk P w K mg base CX0 (k + 1) (d.at_ K) fd ps sp ∧ PySem.W.keepIn K (.ref (d.at_ K)) = true ∧ Binds K fd ps [] ∧ FunD K d.name d.qual (defArgs d.st) (defBody d.st) (defScope d.st) [] [] (d.at_ K) fd := by
  obtain ⟨fd, F⟩ := T.def_ i hd
  refine ⟨fd, F.ok S len fun cdv A outer s H vs Q E hr h => ?_, F.kp, F.bindsN hb, F⟩
  obtain ⟨t, h1, h2⟩ := body cdv A outer s H vs Q E hr h
  exact ⟨t, PSs.nox h1, h2⟩
theorem Tx.fk (T : Tx fa fn K mg base) (i j : Nat) {x q : Str} {st : Stmt} {N ps : List Str} {k : Nat} {sp : Sp} (S : FnScope N ps (defScope st)) (hb : BndOk ⟨fun K => He.ga K x, x, q, st⟩ ps) (len : ∀ vs H Q E, sp vs H Q E → vs.length = ps.length)
    (body : BodyOk P w K mg base ⟨fun K => He.ga K x, x, q, st⟩ N k sp) (hd : fn[i]? = some ⟨fun K => He.ga K x, x, q, st⟩ := by rfl) (hg : fa[j]? = some (.b (.glo x)) := by rfl) : Fk P w K mg base x ps (k + 1) sp st q := by
  obtain ⟨fd, F, kp, b, fu⟩ := T.ok i (d := ⟨fun K => He.ga K x, x, q, st⟩) S hb len body hd
  exact ⟨_, fd, F, T.glo j hg, kp, b, fu⟩
end
section
variable {X : Cx} {x m q : Str} {st : Stmt} {ps : List Str} {k j : Nat} {sp : Sp} {p pos apos : Pos} {e o : Expr} {es : List Expr} {t : TA} {ta : TE} {C : Addr}
theorem pe_f (h : Fk X.prog X.w X.K X.mg X.base x ps k sp st q) (hr : Room j X.A) (ha : PA X (e :: es) t) (hj : k ≤ j := by decide) (hg : Gl X x := by rfl) (hdb : (x == ("__debug__" : Str)) = false := by decide)
    (he : starEach (e :: es) X.env = (false, eval e X.env) :: starEach es X.env := by rfl) (hpl : (backTo pos (starEach es X.env)).any (·.1) = false := by rfl) : PE X (.Call (.Name x p) (e :: es) [] pos) (tCall sp [] E0 t) := by
  obtain ⟨f, fd, F, hm, kp, b, _⟩ := h.ex
  exact pe_call F (hr.mono hj) hg hm kp b .nil pass0 ha hdb he hpl
/-- how keywords bind, by the def's own text -/
def KwOk (x q : Str) (st : Stmt) (ps ks : List Str) (n : Nat) (g : {α : Type} → List α → List α → List α) : Prop :=
  ∀ (kV doc pm : Value) (an : Option Addr) (cdv ct : Value) (us ws : List Value), us.length = n → ws.length = ks.length → bindArgs (PySem.W.fnOf x q (defArgs st) (defBody st) (defScope st) .none kV doc pm an cdv ct) ⟨us, ks.zip ws⟩ = pure (ps.zip (g us ws))
theorem kw_to {K : PySem.W.Frag} {x q : Str} {st : Stmt} {ps ks : List Str} {n : Nat} {g : {α : Type} → List α → List α → List α} {f : Addr} {fd : FuncData} (F : FunD K x q (defArgs st) (defBody st) (defScope st) [] [] f fd) (h : KwOk x q st ps ks n g) :
    ∀ (s : Shared) (us ws : List Value), us.length = n → ws.length = ks.length → BindsTo s fd ⟨us, ks.zip ws⟩ (ps.zip (g us ws)) := by
  obtain ⟨oc, od, dV, kV, doc, pm, an, cdv, ct, osl, rfl, lk, hcd, hD, hK⟩ := F.ex
  intro s us ws h1 h2
  rcases hD with ⟨_, rfl⟩ | ⟨e, _⟩
  · exact .of_eq (h kV doc pm an cdv ct us ws h1 h2)
  · exact absurd rfl e
/-- o.m(k = e, ..) -/
def tMethK (C : Addr) (m : Str) (n : Nat) (sp : Sp) (g : List V → List V → List V) (ta : TE) (tk : TA) : TE := fun σ H Q => ta σ H fun x H1 => ∃ a dx fs, x = .ref a ∧ H1 a = some (.ins C dx fs) ∧ fs.lookup m = none ∧ tk σ H1 fun zs H2 => zs.length = n ∧ sp (g [x] zs) H2 Q E0
end
set_option Elab.async false
set_option linter.all false
set_option maxRecDepth 100000
set_option maxHeartbeats 4000000
section
variable {X : Cx}
theorem pe_globI {x : Str} {n : Int} {pos : Pos} (h : ∃ t, X.mg x = some (.int n t)) (hg : Gl X x := by rfl) (hd : (x == ("__debug__" : Str)) = false := by decide) : PE X (.Name x pos) (tC (.int n)) := by
  obtain ⟨t, e⟩ := h
  exact pe_glob hg e ⟨t, rfl⟩ hd
end
section
variable {J : It} {n : Nat} {GG : Hp → Prop} {Y : Nat → Hp → V → Hp → Prop} {g : TG} {te : TE} {vs : List Nat} {σ : L2.St} {H1 : Hp} {Q : VK}
theorem Fr.mut {J : List Addr} {H H1 : Hp} {p : Addr} {o : HO} (a : Fr J H H1) (hp : H p = none) : Fr J H (upd H1 p o) := fun x u hx h => by
  rw [upd_ne (ne_of_none h hp)]
  exact a x u hx h
/-- a list made item by item, nothing that stood changed -/
theorem lc_pure (w : Walk J n GG Y) (f : Nat → V) (hn : n ≤ 100000) (hG : ∀ H', Fr [] H1 H' → GG H') (hY : ∀ i H' x H'', Y i H' x H'' → Fr [] H' H'')
    (he : ∀ i x H' H'' (R : VK), i < n → Fr [] H1 H' → Y i H' x H'' → (∀ H4, Fr [] H'' H4 → R (f i) H4) → g x (wipe σ vs) H'' fun σ2 H2 => wipe σ2 vs = wipe σ vs ∧ te σ2 H2 R)
    (hd : ∀ D H', H1 D = none → Fr [] H1 H' → H' D = some (.lst ((List.range n).map f)) → Q (.ref D) H') : LcJ g tYes te vs σ Q J H1 := by
  intro D hD
  refine lc_it w (fun i H' => i ≤ n ∧ Fr [] H1 H' ∧ H' D = some (.lst ((List.range i).map f))) ⟨Nat.zero_le _, (Fr.refl H1).mut hD, upd_same⟩ (fun i H' _ p => hG H' p.2.1) (fun i x H' H'' hi p y => ?_) (fun H' p => hd D H' hD p.2.1 p.2.2)
  obtain ⟨p1, p2, p3⟩ := p
  have hf := hY i H' x H'' y
  refine he i x H' H'' (fun y H4 => ∃ acc, H4 D = some (.lst acc) ∧ acc.length < sizeLine ∧ (i + 1 ≤ n ∧ Fr [] H1 (upd H4 D (.lst (acc ++ [y]))) ∧ (upd H4 D (.lst (acc ++ [y]))) D = some (.lst ((List.range (i + 1)).map f)))) hi p2 y fun H4 e4 => ?_
  have e5 : Fr [] H' H4 := hf.trans e4
  refine ⟨_, e5 _ _ (fun z => nomatch z) p3, ?_, hi, (p2.trans e5).mut hD, ?_⟩
  · rw [List.length_map, List.length_range]
    exact Nat.lt_of_lt_of_le (show i < 100001 by omega) (by decide)
  · rw [upd_same, List.range_succ, List.map_append]
    rfl
end
theorem r_iteY {c A B : Prop} [Decidable c] (hc : c) (h : A) : if decide c = true then A else B := by
  rw [if_pos (decide_eq_true hc)]
  exact h
theorem r_iteZ {c A B : Prop} [Decidable c] (hc : ¬ c) (h : B) : if decide c = true then A else B := by
  rw [if_neg (fun z => hc (of_decide_eq_true z))]
  exact h
theorem r_iteNY {c A B : Prop} [Decidable c] (hc : c) (h : B) : if (!decide c) = true then A else B := iteNS hc h
/-- the i-th number -/
def nth (ns : List Int) (i : Nat) : Int := ns.getD i 0
theorem nth_at {ns : List Int} {i : Nat} {x : V} (h : (ns.map V.int)[i]? = some x) : x = .int (nth ns i) := by
  rw [List.getElem?_map] at h
  unfold nth
  rw [List.getD_eq_getElem?_getD]
  cases e : ns[i]? with
  | none =>
    rw [e] at h
    cases h
  | some z =>
    rw [e] at h
    exact (Option.some.inj h).symm
theorem at_nth {ns : List Int} {i : Nat} (h : i < ns.length) : (ns.map V.int)[i]? = some (.int (nth ns i)) := by
  rw [List.getElem?_map, List.getElem?_eq_getElem h]
  unfold nth
  rw [List.getD_eq_getElem?_getD, List.getElem?_eq_getElem h]
  rfl
theorem getElem_nth {ns : List Int} {i : Nat} (h : i < ns.length) : ns[i] = nth ns i := by
  unfold nth
  rw [List.getD_eq_getElem?_getD, List.getElem?_eq_getElem h]
  rfl
theorem range_nth (ns : List Int) : (List.range ns.length).map (nth ns) = ns := by
  refine List.ext_getElem (by simp) fun i h1 h2 => ?_
  rw [List.getElem_map, List.getElem_range, getElem_nth h2]
theorem range_map (ns : List Int) (g : Int → Int) : (List.range ns.length).map (fun i => V.int (g (nth ns i))) = (ns.map g).map V.int := by
  have e : (fun i => V.int (g (nth ns i))) = (V.int ∘ g) ∘ nth ns := rfl
  rw [e, ← List.map_map, range_nth, List.map_map]
/-- [g(x) for x in a], nothing that stood changed -/
theorem lc_map {K : PySem.W.Frag} {a : Addr} {te : TE} {vs : List Nat} {σ : L2.St} {H1 : Hp} {Q : VK} {k : Nat} {ns : List Int} (g : Int → Int) (ha : SqL K H1 a (ns.map V.int)) (hn : ns.length ≤ 100000) (hw : ∀ x, wipe ((wipe σ vs).set k (some x)) vs = wipe σ vs)
    (he : ∀ i H' (R : VK), i < ns.length → Fr [] H1 H' → (∀ H4, Fr [] H' H4 → R (.int (g (nth ns i))) H4) → te ((wipe σ vs).set k (some (.int (nth ns i)))) H' R)
    (hd : ∀ D H', H1 D = none → Fr [] H1 H' → H' D = some (.lst ((ns.map g).map V.int)) → Q (.ref D) H') : LcJ (gName k) tYes te vs σ Q (Itl K a) H1 := by
  have e1 : (ns.map V.int).length = ns.length := List.length_map _
  refine lc_pure (walk_list (xs := ns.map V.int)) (fun i => .int (g (nth ns i))) (by omega) (fun H' e => e.sql ha (fun z => nomatch z)) (fun i H' x H'' y => by rw [y.1]; exact Fr.refl _) (fun i x H' H'' R hi e y kR => ?_) (fun D H' hD e hD' => ?_)
  · obtain ⟨rfl, hx⟩ := y
    rw [nth_at hx]
    exact ⟨hw _, he i _ R (by omega) e kR⟩
  · rw [e1, range_map] at hD'
    exact hd D H' hD e hD'
theorem cut_last (xs : List V) : cutV xs none (some (-1)) = xs.dropLast := by
  unfold cutV
  rw [List.dropLast_eq_take, show HT.sIx xs.length 0 none = 0 from rfl, List.drop_zero, show HT.sIx xs.length xs.length (some (-1)) = ((-1 : Int) + (xs.length : Int)).toNat from rfl]
  congr 1
  omega
theorem atI_end {ns : List Int} (h : 0 < ns.length) : atI (ns.map V.int) (-1) = some (.int (nth ns (ns.length - 1))) := by
  have e : ns = ns.take (ns.length - 1) ++ [nth ns (ns.length - 1)] := by
    rw [← getElem_nth (show ns.length - 1 < ns.length by omega)]
    have := List.take_append_getElem (l := ns) (i := ns.length - 1) (by omega)
    rw [this, List.take_of_length_le (by omega)]
  have e2 : ns.map V.int = (ns.take (ns.length - 1)).map V.int ++ [.int (nth ns (ns.length - 1))] := by
    rw [show [V.int (nth ns (ns.length - 1))] = [nth ns (ns.length - 1)].map V.int from rfl, ← List.map_append, ← e]
  rw [e2, atI_last]
set_option Elab.async false
set_option linter.all false
set_option maxRecDepth 100000
set_option maxHeartbeats 4000000
structure BagB (ns : List Int) (b c d : Int) (n : Nat) : Prop where
  len : ns.length ≤ 63
  all : ∀ x ∈ ns, 0 ≤ x
  b0 : 0 ≤ b
  c0 : 0 ≤ c
  c1 : c < 2 ^ 31
  d0 : 0 ≤ d
  d1 : d + 100 * n ≤ 100000000
abbrev BagO (ls : Addr) (i : Nat) (b c d : Int) : HO := .lst [.ref ls, .int (i : Nat), .int b, .int c, .int d]
def JarAt (ls : Addr) (H : Hp) (j : Addr) (n : Nat) : Prop := ∃ (ns : List Int) (i : Nat) (b c d : Int), H j = some (BagO ls i b c d) ∧ H ls = some (.lst (ns.map V.int)) ∧ ls ≠ j ∧ i ≤ ns.length ∧ BagB ns b c d n
theorem JarAt.le {ls : Addr} {H : Hp} {j : Addr} {n m : Nat} (h : JarAt ls H j n) (l : m ≤ n) : JarAt ls H j m := by
  obtain ⟨ns, i, b, c, d, e, e2, nj, hi, q⟩ := h
  exact ⟨ns, i, b, c, d, e, e2, nj, hi, q.len, q.all, q.b0, q.c0, q.c1, q.d0, by have := q.d1; omega⟩
theorem JarAt.fr {ls : Addr} {H H' : Hp} {j : Addr} {n : Nat} (h : JarAt ls H j n) (f : Fr [] H H') : JarAt ls H' j n := by
  obtain ⟨ns, i, b, c, d, e, e2, nj, hi, q⟩ := h
  exact ⟨ns, i, b, c, d, f _ _ (fun z => nomatch z) e, f _ _ (fun z => nomatch z) e2, nj, hi, q⟩
theorem JarAt.ne {ls : Addr} {H : Hp} {j p : Addr} {n : Nat} (h : JarAt ls H j n) (hp : H p = none) : p ≠ j := fun e => by
  obtain ⟨ns, i, b, c, d, e1, _⟩ := h
  rw [e, e1] at hp
  cases hp
theorem JarAt.some {ls : Addr} {H : Hp} {j : Addr} {n : Nat} (h : JarAt ls H j n) : ∃ o, H j = some o := by
  obtain ⟨ns, i, b, c, d, e, _⟩ := h
  exact ⟨_, e⟩
theorem JarAt.sls {ls : Addr} {H : Hp} {j : Addr} {n : Nat} (h : JarAt ls H j n) : ∃ o, H ls = Option.some o := by
  obtain ⟨ns, i, b, c, d, _, e, _⟩ := h
  exact ⟨_, e⟩
/-- the known heap beside the jar -/
structure ZJ (ls : Addr) (H0 H : Hp) (j : Addr) (n : Nat) (E : List En) : Prop where
  jar : JarAt ls H j n
  nd : (E.map (·.2.1)).Nodup
  at_ : ∀ q ∈ E, H q.2.1 = some q.2.2
  ne : ∀ q ∈ E, q.2.1 ≠ j
  two : ∀ q ∈ E, q.1 = 2
  fresh : ∀ q ∈ E, H0 q.2.1 = none
  fr : Fr [j] H0 H
  old : ∃ o, H0 ls = Option.some o
section
variable {ls : Addr} {H0 H H' : Hp} {j : Addr} {n : Nat} {E : List En}
theorem ZJ.start (h : JarAt ls H j n) : ZJ ls H H j n [] := ⟨h, List.nodup_nil, (fun _ m => nomatch m), (fun _ m => nomatch m), (fun _ m => nomatch m), (fun _ m => nomatch m), Fr.refl H, h.sls⟩
theorem ZJ.get (z : ZJ ls H0 H j n E) {t : Nat} {a : Addr} {o : HO} (h : (t, a, o) ∈ E) : H a = some o := z.at_ _ h
theorem ZJ.keep (z : ZJ ls H0 H j n E) {a : Addr} {o : HO} (h : H0 a = some o) (n : a ≠ j) : H a = some o := z.fr _ _ (fun m => by
  rcases List.mem_cons.mp m with e | m
  · exact n e
  · cases m) h
theorem ZJ.none (z : ZJ ls H0 H j n E) {p : Addr} (hp : H p = none) : H0 p = none := by
  cases e : H0 p with
  | none => rfl
  | some o =>
    rw [z.keep e (z.jar.ne hp)] at hp
    cases hp
theorem ZJ.alloc (z : ZJ ls H0 H j n E) {p : Addr} (o : HO) (hp : H p = Option.none) : ZJ ls H0 (upd H p o) j n ((2, p, o) :: E) := by
  have hn : ∀ q ∈ E, q.2.1 ≠ p := fun q hq => ne_of_none (z.at_ q hq) hp
  have hj := z.jar.ne hp
  refine ⟨z.jar.fr ((Fr.refl H).new hp), ?_, fun q hq => ?_, fun q hq => ?_, fun q hq => ?_, fun q hq => ?_, z.fr.new hp, z.old⟩
  · rw [List.map_cons, List.nodup_cons]
    refine ⟨fun m => ?_, z.nd⟩
    obtain ⟨q, hq, e⟩ := List.mem_map.mp m
    exact hn q hq e
  all_goals rcases List.mem_cons.mp hq with rfl | hq
  · exact upd_same
  · rw [upd_ne (hn q hq)]
    exact z.at_ q hq
  · exact hj
  · exact z.ne q hq
  · rfl
  · exact z.two q hq
  · exact z.none hp
  · exact z.fresh q hq
theorem ZJ.other (z : ZJ ls H0 H j n E) {i k : Nat} {q r : En} (hi : E[i]? = some q) (hk : E[k]? = some r) (h : k ≠ i) : r.2.1 ≠ q.2.1 := fun e => by
  have h1 : (E.map (·.2.1))[i]? = some q.2.1 := by rw [List.getElem?_map, hi] <;> rfl
  have h2 : (E.map (·.2.1))[k]? = some r.2.1 := by rw [List.getElem?_map, hk] <;> rfl
  rw [e] at h2
  obtain ⟨g1, e1⟩ := List.getElem?_eq_some_iff.mp h1
  obtain ⟨g2, e2⟩ := List.getElem?_eq_some_iff.mp h2
  exact h ((List.getElem_inj z.nd).mp (e2.trans e1.symm))
/-- a store to the i-th entry -/
theorem ZJ.set (z : ZJ ls H0 H j n E) (i : Nat) {t : Nat} {a : Addr} {o : HO} (o' : HO) (hi : E[i]? = some (t, a, o)) : ZJ ls H0 (upd H a o') j n (E.set i (t, a, o')) := by
  have hin := List.mem_of_getElem? hi
  have haj := z.ne _ hin
  have hal : ls ≠ a := fun x => by
    have h1 := z.fresh _ hin
    obtain ⟨o1, h2⟩ := z.old
    rw [x] at h2
    rw [h2] at h1
    cases h1
  refine ⟨?_, ?_, fun q hq => ?_, fun q hq => ?_, fun q hq => ?_, fun q hq => ?_, ?_, z.old⟩
  · obtain ⟨ns, i, b, c, d, e, e2, nj, hi, q⟩ := z.jar
    exact ⟨ns, i, b, c, d, by rw [upd_ne haj.symm]; exact e, by rw [upd_ne hal]; exact e2, nj, hi, q⟩
  · rw [map_set_same hi]
    exact z.nd
  · rcases mem_set_of hq with rfl | ⟨k, hk, e⟩
    · exact upd_same
    · rw [upd_ne (z.other hi e hk)]
      exact z.at_ q (List.mem_of_getElem? e)
  · rcases mem_set_of hq with rfl | ⟨k, hk, e⟩
    · exact haj
    · exact z.ne q (List.mem_of_getElem? e)
  · rcases mem_set_of hq with rfl | ⟨k, hk, e⟩
    · exact z.two (t, a, o) hin
    · exact z.two q (List.mem_of_getElem? e)
  · rcases mem_set_of hq with rfl | ⟨k, hk, e⟩
    · exact z.fresh (t, a, o) hin
    · exact z.fresh q (List.mem_of_getElem? e)
  · exact z.fr.mut (z.fresh _ hin)
/-- behind draws -/
theorem ZJ.dips (z : ZJ ls H0 H j n E) {m : Nat} (f : Fr [j] H H') (h : JarAt ls H' j m) : ZJ ls H0 H' j m E :=
  ⟨h, z.nd, fun q hq => f _ _ (fun s => by
    rcases List.mem_cons.mp s with e | s
    · exact z.ne q hq e
    · cases s) (z.at_ q hq), z.ne, z.two, z.fresh, z.fr.trans f, z.old⟩
/-- behind a call that draws and makes N -/
theorem ZJ.call (z : ZJ ls H0 H j n E) {m : Nat} {N : List (Addr × HO)} (f : Fr [j] H H') (h : JarAt ls H' j m) (w : New H H' N) : ZJ ls H0 H' j m (N.map (fun q => ((2, q.1, q.2) : En)) ++ E) := by
  have y := z.dips f h
  refine ⟨h, ?_, fun q hq => ?_, fun q hq => ?_, fun q hq => ?_, fun q hq => ?_, y.fr, z.old⟩
  · rw [List.map_append, List.nodup_append]
    refine ⟨?_, z.nd, fun x hx r hr e => ?_⟩
    · rw [List.map_map]
      exact w.1.1
    · obtain ⟨q, hq, rfl⟩ := List.mem_map.mp hx
      obtain ⟨q', hq', rfl⟩ := List.mem_map.mp hq
      obtain ⟨u, hu, rfl⟩ := List.mem_map.mp hr
      exact ne_of_none (z.at_ u hu) (w.2 q' hq') e.symm
  all_goals rcases List.mem_append.mp hq with hq | hq
  · obtain ⟨q', hq', rfl⟩ := List.mem_map.mp hq
    exact w.1.2 q' hq'
  · exact y.at_ q hq
  · obtain ⟨q', hq', rfl⟩ := List.mem_map.mp hq
    exact z.jar.ne (w.2 q' hq')
  · exact z.ne q hq
  · obtain ⟨q', hq', rfl⟩ := List.mem_map.mp hq
    rfl
  · exact z.two q hq
  · obtain ⟨q', hq', rfl⟩ := List.mem_map.mp hq
    exact z.none (w.2 q' hq')
  · exact z.fresh q hq
theorem ZJ.call0 (z : ZJ ls H0 H j n E) {N : List (Addr × HO)} (f : Fr [] H H') (w : New H H' N) : ZJ ls H0 H' j n (N.map (fun q => ((2, q.1, q.2) : En)) ++ E) := z.call f.up0 (z.jar.fr f) w
theorem new1 {D : Addr} {o : HO} (h0 : H D = Option.none) (h1 : H' D = some o) : New H H' [(D, o)] := by
  refine ⟨⟨List.nodup_cons.mpr ⟨(fun m => nomatch m), List.nodup_nil⟩, fun q hq => ?_⟩, fun q hq => ?_⟩
  all_goals
    rcases List.mem_cons.mp hq with rfl | hq
    · assumption
    · cases hq
theorem ZJ.comp (z : ZJ ls H0 H j n E) {D : Addr} {o : HO} (f : Fr [] H H') (h0 : H D = Option.none) (h1 : H' D = some o) : ZJ ls H0 H' j n ((2, D, o) :: E) := z.call0 (N := [(D, o)]) f (new1 h0 h1)
theorem ZJ.same (z : ZJ ls H0 H j n E) (f : Fr [] H H') : ZJ ls H0 H' j n E := z.dips f.up0 (z.jar.fr f)
theorem ZJ.sub (z : ZJ ls H0 H j n E) {E' : List En} (s : E'.Sublist E) : ZJ ls H0 H j n E' :=
  ⟨z.jar, (s.map _).nodup z.nd, fun q hq => z.at_ q (s.subset hq), fun q hq => z.ne q (s.subset hq), fun q hq => z.two q (s.subset hq), fun q hq => z.fresh q (s.subset hq), z.fr, z.old⟩
theorem ZJ.le (z : ZJ ls H0 H j n E) {m : Nat} (l : m ≤ n) : ZJ ls H0 H j m E := ⟨z.jar.le l, z.nd, z.at_, z.ne, z.two, z.fresh, z.fr, z.old⟩
theorem ZJ.made (z : ZJ ls H0 H j n E) {N : List (Addr × HO)} (s : (N.map (fun q => ((2, q.1, q.2) : En))).Sublist E) : New H0 H N := by
  refine ⟨⟨?_, fun q hq => z.at_ (2, q.1, q.2) (s.subset (List.mem_map.mpr ⟨q, hq, rfl⟩))⟩, fun q hq => z.fresh (2, q.1, q.2) (s.subset (List.mem_map.mpr ⟨q, hq, rfl⟩))⟩
  have := (s.map (·.2.1)).nodup z.nd
  rw [List.map_map] at this
  exact this
end
/-- [draw for _ in range(n)], c draws an item -/
theorem lc_draw {J : It} (p : Int → Prop) {n c m : Nat} {f : Nat → V} {g : TG} {te : TE} {vs : List Nat} {σ : L2.St} {Q : VK} {ls : Addr} {H0 H1 : Hp} {j : Addr} {E : List En} (w : Walk J n (fun _ => True) (YFn f)) (hn : n ≤ 10000) (z : ZJ ls H0 H1 j (m + c * n) E)
    (he : ∀ (i : Nat) (H' : Hp) (D : Addr) (ns : List Int) (R : VK), i < n → ns.length = i → ZJ ls H0 H' j (m + c * (n - i)) ((2, D, .lst (ns.map V.int)) :: E) → (∀ (x : Int) (G : Hp), p x → ZJ ls H0 G j (m + c * (n - (i + 1))) ((2, D, .lst (ns.map V.int)) :: E) → R (.int x) G) →
      g (f i) (wipe σ vs) H' fun σ2 H2 => wipe σ2 vs = wipe σ vs ∧ te σ2 H2 R)
    (hd : ∀ (D : Addr) (ns : List Int) (H' : Hp), ns.length = n → (∀ x ∈ ns, p x) → ZJ ls H0 H' j m ((2, D, .lst (ns.map V.int)) :: E) → Q (.ref D) H') : LcJ g tYes te vs σ Q J H1 := by
  intro D hD
  refine lc_it w (fun i H' => i ≤ n ∧ ∃ ns : List Int, ns.length = i ∧ (∀ x ∈ ns, p x) ∧ ZJ ls H0 H' j (m + c * (n - i)) ((2, D, .lst (ns.map V.int)) :: E)) ⟨Nat.zero_le _, [], rfl, (fun _ m => nomatch m), z.alloc (.lst []) hD⟩ (fun i H' _ _ => trivial) (fun i x H' H'' hi p y => ?_) (fun H' p => ?_)
  · obtain ⟨p1, ns, p2, pp, p3⟩ := p
    obtain ⟨rfl, rfl⟩ := y
    refine he i H'' D ns (fun y H4 => ∃ acc, H4 D = some (.lst acc) ∧ acc.length < sizeLine ∧ (i + 1 ≤ n ∧ ∃ ns : List Int, ns.length = i + 1 ∧ (∀ x ∈ ns, p x) ∧ ZJ ls H0 (upd H4 D (.lst (acc ++ [y]))) j (m + c * (n - (i + 1))) ((2, D, .lst (ns.map V.int)) :: E))) hi p2 p3 fun x G px q => ?_
    refine ⟨ns.map V.int, q.get (.head _), ?_, hi, ns ++ [x], by rw [List.length_append, p2] <;> rfl, (fun y hy => (List.mem_append.mp hy).elim (pp y) fun h => (List.mem_singleton.mp h) ▸ px), ?_⟩
    · rw [List.length_map, p2]
      exact Nat.lt_of_lt_of_le (show i < 100001 by omega) (by decide)
    · rw [List.map_append]
      exact q.set 0 _ rfl
  · obtain ⟨p1, ns, p2, pp, p3⟩ := p
    exact hd D ns H' p2 pp (by
      rw [Nat.sub_self] at p3
      exact p3)
theorem min_ex : ∀ {ns : List Int}, 0 < ns.length → ∃ m, m ∈ ns ∧ ∀ y, y ∈ ns → m ≤ y
  | [], h => absurd h (by decide)
  | [a], _ => ⟨a, List.mem_cons_self, fun y hy => by rcases List.mem_cons.mp hy with rfl | hy; exact Int.le_refl _; cases hy⟩
  | a :: b :: r, _ => by
    obtain ⟨m, h1, h2⟩ := min_ex (ns := b :: r) (by simp)
    rcases Int.le_total a m with h | h
    · exact ⟨a, List.mem_cons_self, fun y hy => by
        rcases List.mem_cons.mp hy with rfl | hy
        · exact Int.le_refl _
        · exact Int.le_trans h (h2 y hy)⟩
    · exact ⟨m, List.mem_cons_of_mem _ h1, fun y hy => by
        rcases List.mem_cons.mp hy with rfl | hy
        · exact h
        · exact h2 y hy⟩
theorem r_minM {K : PySem.W.Frag} {H : Hp} {Q : VK} {a : Addr} {ns : List Int} {m : Int} (h : SqL K H a (ns.map V.int)) (h1 : m ∈ ns) (h2 : ∀ y, y ∈ ns → m ≤ y) (q : Q (.int m) H) : rMin K [.ref a] H Q :=
  ⟨a, ns, rfl, h, List.length_pos_of_mem h1, fun m' g1 g2 => by rw [Int.le_antisymm (g2 _ h1) (h2 _ g1)]; exact q⟩
theorem r_maxM {K : PySem.W.Frag} {H : Hp} {Q : VK} {a : Addr} {ns : List Int} {m : Int} (h : SqL K H a (ns.map V.int)) (h1 : m ∈ ns) (h2 : ∀ y, y ∈ ns → y ≤ m) (q : Q (.int m) H) : rMax K [.ref a] H Q :=
  ⟨a, ns, rfl, h, List.length_pos_of_mem h1, fun m' g1 g2 => by rw [Int.le_antisymm (h2 _ g1) (g2 _ h1)]; exact q⟩
theorem nth_mem {ns : List Int} {i : Nat} (h : i < ns.length) : nth ns i ∈ ns := by
  rw [← getElem_nth h]
  exact List.getElem_mem h
set_option Elab.async false
set_option linter.all false
set_option maxRecDepth 100000
set_option maxHeartbeats 2000000
def ItS (K : PySem.W.Frag) (c : Int) (a : Addr) : It where
  go := (Ite K a).go
  stop := (Ite K a).stop
  yld := fun i H v H' => ∃ (T : Addr) (x : V), v = .ref T ∧ H T = none ∧
    H' = upd H T (.tup [.int (c + (i : Int)), x]) ∧
    ∀ xs, SqL K H a xs → xs[i]? = some x
/-- reading: enumerate(e, start=c) -/
def iEnumS (K : PySem.W.Frag) (c : Int) (ta : TE) : TI := fun σ H R => ta σ H fun v H1 => ∃ a xs, v = .ref a ∧ SqL K H1 a xs ∧ R (ItS K c a) H1
theorem r_ienumS {K : PySem.W.Frag} {c : Int} {te : TE} {σ : L2.St} {H : Hp} {R : It → Hp → Prop} (h : te σ H fun v H1 => ∃ a xs, v = .ref a ∧ SqL K H1 a xs ∧ R (ItS K c a) H1) : iEnumS K c te σ H R := h
theorem r_methK {σ : L2.St} {H : Hp} {Q : VK} {C : Addr} {m : Str} {n : Nat} {sp : Sp} {g : List V → List V → List V} {ta : TE} {tk : TA}
    (h : ta σ H fun x H1 => ∃ a dx fs, x = .ref a ∧ H1 a = some (.ins C dx fs) ∧ fs.lookup m = none ∧ tk σ H1 fun zs H2 => zs.length = n ∧ sp (g [x] zs) H2 Q E0) : tMethK C m n sp g ta tk σ H Q := h
theorem relabel_free {env : Env} {x : Str} {names : List (Str × NameKind)} (h : names.lookup x = some .cell ∨ names.lookup x = some .free) :
    (names.map fun (n, k) => if (k == NameKind.free && env.scope.kind == .function && env.kindOf n == some .cell) then (n, NameKind.cell) else (n, k)).lookup x = some .cell ∨
    (names.map fun (n, k) => if (k == NameKind.free && env.scope.kind == .function && env.kindOf n == some .cell) then (n, NameKind.cell) else (n, k)).lookup x = some .free := by
  induction names with
  | nil =>
    rcases h with h | h
    · cases h
    · cases h
  | cons q r ih =>
    obtain ⟨n, k⟩ := q
    rw [List.map_cons]
    have hd : (if (k == NameKind.free && env.scope.kind == .function && env.kindOf n == some .cell) = true then (n, NameKind.cell) else (n, k)) = (n, if (k == NameKind.free && env.scope.kind == .function && env.kindOf n == some .cell) = true then NameKind.cell else k) := by
      split <;> rfl
    dsimp only
    rw [hd]
    by_cases e : (x == n) = true
    · rw [List.lookup_cons, e] at h ⊢
      dsimp only at h ⊢
      split
      · exact .inl rfl
      · exact h
    · have e := Bool.eq_false_iff.mpr e
      rw [List.lookup_cons, e] at h ⊢
      exact ih h
theorem blkRel {N : List Str} {sc scope : Scope} {env : Env} {own : List (Str × Nat)} (h : BlkOk N sc scope own) : BlkOk N (relabel sc env) scope own :=
  ⟨h.kind, h.uniq, h.ix, fun y hy e => relabel_free (h.free y hy e), h.own⟩
set_option Elab.async false
set_option linter.all false
set_option maxRecDepth 100000
set_option maxHeartbeats 4000000
section
variable {K : PySem.W.Frag} {H : Hp} {Q : VK} {a : Addr} {σ : L2.St}
theorem r_sum {ns : List Int} (h : SqL K H a (ns.map V.int)) (q : Q (.int ns.sum) H) : rSum K [.ref a] H Q := ⟨a, ns, rfl, h, q⟩
theorem r_glst {k : Nat} {T : TGs} {R : L2.St → Hp → Prop} {xs : List V} (h : SqL K H a xs) (e : xs.length = k) (q : T xs σ H R) : gLst K k T (.ref a) σ H R := ⟨a, xs, rfl, h, e, q⟩
end
theorem r_par3 {σ : L2.St} {H : Hp} {D : Ends} {tas : TA} {i j l : Nat} (h : tas σ H fun vs H1 => ∃ u v w, vs = [u, v, w] ∧ D.nx (((σ.set i (some u)).set j (some v)).set l (some w)) H1) : tPar3 i j l tas D σ H := h
theorem r_expar3 {x y z : V} {R : V → V → V → Prop} (h : R x y z) : ∃ u v w, [x, y, z] = [u, v, w] ∧ R u v w := ⟨x, y, z, rfl, h⟩
set_option Elab.async false
set_option linter.all false
set_option maxRecDepth 100000
set_option maxHeartbeats 4000000
set_option Elab.async false
set_option linter.all false
set_option maxRecDepth 100000
set_option maxHeartbeats 4000000
abbrev IsSeqT (h : Heap) (T : Addr) (xs : Array Value) : Prop := h.get? T = some { cls := .type "tuple", data := .seq xs }
/-- list iterators over lists, all at the k-th turn -/
def ItsAt (h : Heap) (k : Nat → Nat) (is ls : List Addr) : Prop := ∀ m i l, is[m]? = some i → ls[m]? = some l → h.IsListIter i l (k m)
/-- the lists as they stand at each turn, the items in new tuples -/
def ItzN (K : PySem.W.Frag) (as : List Addr) : It :=
  ⟨fun i H => ∃ vs : List V, vs.length = as.length ∧ ∀ (m : Nat) a, as[m]? = some a → ∃ xs, SqL K H a xs ∧ xs[i]? = vs[m]?,
    fun i H v H' => ∃ (T : Addr) (vs : List V), v = .ref T ∧ H T = none ∧ H' = upd H T (.tup vs) ∧ vs.length = as.length ∧ ∀ (m : Nat) a xs, as[m]? = some a → SqL K H a xs → xs[i]? = vs[m]?,
    fun i H => (∀ a ∈ as, ∃ xs, SqL K H a xs) ∧ ∃ (m : Nat) (a : Addr) (xs : List V), as[m]? = some a ∧ SqL K H a xs ∧ xs.length ≤ i⟩
def iZip3 (K : PySem.W.Frag) (ta : TA) : TI := fun σ H R => ta σ H fun vs H1 => ∃ b1 b2 b3 y1 y2 y3, vs = [.ref b1, .ref b2, .ref b3] ∧ SqL K H1 b1 y1 ∧ SqL K H1 b2 y2 ∧ SqL K H1 b3 y3 ∧ R (ItzN K [b1, b2, b3]) H1
def iZip4 (K : PySem.W.Frag) (ta : TA) : TI := fun σ H R => ta σ H fun vs H1 => ∃ b1 b2 b3 b4 y1 y2 y3 y4, vs = [.ref b1, .ref b2, .ref b3, .ref b4] ∧ SqL K H1 b1 y1 ∧ SqL K H1 b2 y2 ∧ SqL K H1 b3 y3 ∧ SqL K H1 b4 y4 ∧ R (ItzN K [b1, b2, b3, b4]) H1
theorem r_izip3 {K : PySem.W.Frag} {tas : TA} {σ : L2.St} {H : Hp} {R : It → Hp → Prop} (h : tas σ H fun vs H1 => ∃ b1 b2 b3 y1 y2 y3, vs = [.ref b1, .ref b2, .ref b3] ∧ SqL K H1 b1 y1 ∧ SqL K H1 b2 y2 ∧ SqL K H1 b3 y3 ∧ R (ItzN K [b1, b2, b3]) H1) : iZip3 K tas σ H R := h
theorem r_izip4 {K : PySem.W.Frag} {tas : TA} {σ : L2.St} {H : Hp} {R : It → Hp → Prop} (h : tas σ H fun vs H1 => ∃ b1 b2 b3 b4 y1 y2 y3 y4, vs = [.ref b1, .ref b2, .ref b3, .ref b4] ∧ SqL K H1 b1 y1 ∧ SqL K H1 b2 y2 ∧ SqL K H1 b3 y3 ∧ SqL K H1 b4 y4 ∧ R (ItzN K [b1, b2, b3, b4]) H1) : iZip4 K tas σ H R := h
theorem r_exz3 {K : PySem.W.Frag} {H : Hp} {b1 b2 b3 : Addr} {y1 y2 y3 : List V} {P : Addr → Addr → Addr → Prop} (h1 : SqL K H b1 y1) (h2 : SqL K H b2 y2) (h3 : SqL K H b3 y3) (q : P b1 b2 b3) :
    ∃ c1 c2 c3 y1 y2 y3, [V.ref b1, V.ref b2, V.ref b3] = [.ref c1, .ref c2, .ref c3] ∧ SqL K H c1 y1 ∧ SqL K H c2 y2 ∧ SqL K H c3 y3 ∧ P c1 c2 c3 := ⟨b1, b2, b3, y1, y2, y3, rfl, h1, h2, h3, q⟩
theorem r_exz4 {K : PySem.W.Frag} {H : Hp} {b1 b2 b3 b4 : Addr} {y1 y2 y3 y4 : List V} {P : Addr → Addr → Addr → Addr → Prop} (h1 : SqL K H b1 y1) (h2 : SqL K H b2 y2) (h3 : SqL K H b3 y3) (h4 : SqL K H b4 y4) (q : P b1 b2 b3 b4) :
    ∃ c1 c2 c3 c4 y1 y2 y3 y4, [V.ref b1, V.ref b2, V.ref b3, V.ref b4] = [.ref c1, .ref c2, .ref c3, .ref c4] ∧ SqL K H c1 y1 ∧ SqL K H c2 y2 ∧ SqL K H c3 y3 ∧ SqL K H c4 y4 ∧ P c1 c2 c3 c4 := ⟨b1, b2, b3, b4, y1, y2, y3, y4, rfl, h1, h2, h3, h4, q⟩
set_option Elab.async false
set_option linter.all false
set_option maxRecDepth 100000
set_option maxHeartbeats 4000000
/-- the iterator while its tuples are kept, a list at S being filled -/
def ZlSt (h : Heap) (z TI TO S : Addr) (is as : List Addr) (i : Nat) : Prop :=
  IsSeqT h TI (is.map Value.ref).toArray ∧ ItsAt h (fun _ => i) is as ∧ ((IsZip h z TI TO .none ∧ ∃ a : Array Value, a.size = is.length ∧ IsSeqT h TO a) ∨ ∃ T f oT, PySem.IsZipHeld h z TI TO T f ∧ h.get? T = some oT ∧ T ≠ z ∧ T ∉ is ∧ T ≠ S)
theorem ZlSt.keep {h h' : Heap} {z TI TO S : Addr} {is as : List Addr} {i : Nat} (x : ZlSt h z TI TO S is as i) (n : z ≠ S ∧ TI ≠ S ∧ TO ≠ S ∧ S ∉ is) (k : ∀ c o, c ≠ S → h.get? c = some o → h'.get? c = some o) : ZlSt h' z TI TO S is as i := by
  obtain ⟨hTI, hi, hz⟩ := x
  obtain ⟨n1, n2, n3, n4⟩ := n
  refine ⟨k _ _ n2 hTI, fun m i l em el => (hi m i l em el).at fun o e => k _ o (fun q => n4 (q ▸ List.mem_of_getElem? em)) e, ?_⟩
  rcases hz with ⟨hz, a, ha, hTO⟩ | ⟨T, f, oT, hz, hT, r1, r2, r3⟩
  · exact .inl ⟨k _ _ n1 hz, a, ha, k _ _ n3 hTO⟩
  · exact .inr ⟨T, f, oT, k _ _ n1 hz, k _ _ r3 hT, r1, r2, r3⟩
/-- what list(zip(..)) of lists L makes: a list at q of tuples at ts -/
structure ZOut (H1 H' : Hp) (q : Addr) (L : List (List V)) (n : Nat) (ts : List Addr) : Prop where
  new : H1 q = none
  len : ts.length = n
  lst : H' q = some (.lst (ts.map V.ref))
  nq : q ∉ ts
  nd : ts.Nodup
  tup : ∀ (j : Nat) t, ts[j]? = some t → H1 t = none ∧ H' t = some (.tup (L.map fun xs => xs.getD j V.non))
  fr : Fr [] H1 H'
/-- what the reading asks of list(zip(..)): lists of ints or whatever, the shortest of n -/
def rZipL (K : PySem.W.Frag) (m : Nat) : List V → Hp → VK → Prop := fun vs H Q => ∃ (as : List Addr) (L : List (List V)) (n : Nat), vs = as.map V.ref ∧ as.length = m ∧ L.length = m ∧ (∀ xs ∈ L, n ≤ xs.length) ∧ (∃ xs ∈ L, xs.length = n) ∧ n ≤ 100000 ∧ (∀ (m : Nat) a xs, as[m]? = some a → L[m]? = some xs → SqL K H a xs) ∧
  ∀ H' p ts, ZOut H H' p L n ts → Q (.ref p) H'
def tZipL (K : PySem.W.Frag) (m : Nat) (ta : TA) : TE := fun σ H Q => ta σ H fun vs H1 => rZipL K m vs H1 Q
theorem r_zipL {K : PySem.W.Frag} {m : Nat} {ta : TA} {σ : L2.St} {H : Hp} {Q : VK} (h : ta σ H fun vs H1 => rZipL K m vs H1 Q) : tZipL K m ta σ H Q := h
set_option Elab.async false
set_option linter.all false
set_option maxRecDepth 100000
set_option maxHeartbeats 4000000
theorem r_augS {to ti te : TE} {tget : V → V → Hp → VK → Prop} {tip : TIp} {tset : TSet} {D : Ends} {σ : L2.St} {H : Hp}
    (h : to σ H fun o H1 => ti σ H1 fun i H2 => tget o i H2 fun x H3 => te σ H3 fun y H4 => tip x y H4 fun z H5 => tset o i z H5 fun H6 => D.nx σ H6) : tAugS to ti te tget tip tset D σ H := h
theorem r_ipI {f : Int → Int → Int} {i j : Int} {H : Hp} {Q : VK} (q : Q (.int (f i j)) H) : ipI f (.int i) (.int j) H Q := ⟨i, j, rfl, rfl, q⟩
def tCallKw (n : Nat) (sp : Sp) (g : List V → List V → List V) (tk : TA) : TE := fun σ H Q => tk σ H fun zs H2 => zs.length = n ∧ sp (g [] zs) H2 Q E0
section
variable {X : Cx} {x q : Str} {st : Stmt} {ps : List Str} {k j : Nat} {sp : Sp} {p pos : Pos}
theorem pe_fK {kws : List Keyword} {tk : TA} {ks : List Str} {g : {α : Type} → List α → List α → List α} (h : Fk X.prog X.w X.K X.mg X.base x ps k sp st q) (hr : Room j X.A) (kb : KwOk x q st ps ks 0 g)
    (rel : ∀ {vs : List V} {us : List Value} {zs : List V} {ws : List Value}, Vals vs us → Vals zs ws → zs.length = ks.length → vs.length = 0 → Vals (g vs zs) (g us ws)) (hkw : PK X kws tk) (hj : k ≤ j := by decide) (hg : Gl X x := by rfl) (hdb : (x == ("__debug__" : Str)) = false := by decide)
    (hall : (backToKw pos (keywordEach kws X.env)).all (·.1.isSome) = true := by rfl) (hks : (backToKw pos (keywordEach kws X.env)).filterMap (·.1) = ks := by rfl)
    (hpl : ((backTo pos (starEach [] X.env)).any (·.1) || (backToKw pos (keywordEach kws X.env)).any (·.1.isNone)) = false := by rfl) : PE X (.Call (.Name x p) [] kws pos) (tCallKw ks.length sp g tk) := by
  obtain ⟨f, fd, F, hm, kp, b, fu⟩ := h.ex
  have to := kw_to fu kb
  refine ⟨fun pins s σ H Q I hh => wpAny_Call_Name_kw (ld_glob I hg hm ?_ hdb)⟩
  refine PySem.W.callWith_KW0 (h₀ := X.base) (first := []) I.ok.mod.kin kp hall (thn (hkw.run pos pins s σ H _ I hh) fun ws s2 ⟨zs, H2, I2, rz, hz, q2⟩ => ⟨I2.kIn, ?_⟩) hpl
  rw [hks]
  have r0 : Vals [] [] := .nil
  have r2 := rel r0 rz hz rfl
  refine wpAny_call (codeAny_mono (F.run X.A X.stack s2 H2 ⟨[], ks.zip ws⟩ (g [] ws) (g [] zs) Q E0 (hr.mono hj) I2.env0 (to s2 [] ws rfl (rz.length.symm.trans hz)) r2 q2) fun r s' hq => ?_)
  cases r with
  | error e => exact hq.elim
  | ok fl =>
    cases fl with
    | ret u => exact I2.after hq
    | next => exact False.elim hq
    | brk => exact False.elim hq
    | cont => exact False.elim hq
end
theorem r_callKw {n : Nat} {sp : Sp} {g : List V → List V → List V} {tk : TA} {σ : L2.St} {H : Hp} {Q : VK} (h : tk σ H fun zs H2 => zs.length = n ∧ sp (g [] zs) H2 Q E0) : tCallKw n sp g tk σ H Q := h
theorem r_ckw {r : List V → List V → Hp → VK → Prop} {t tk : TA} {σ : L2.St} {H : Hp} {Q : VK} (h : t σ H fun vs H1 => tk σ H1 fun zs H2 => r vs zs H2 Q) : tCKw r t tk σ H Q := h
set_option maxHeartbeats 4000000
set_option maxHeartbeats 4000000
def ent (X : Nat → Int) (i : Nat) : Int := X (i + 1) - X i
def clampF (a b : Nat → Int) (i : Nat) (c : Int) : Int := min (b i) (max (a i) c)
/-- the times inside at a rate: what can be reached from an entry above its bound at the rate -/
inductive Ins (n : Nat) (lo hi a b X : Nat → Int) (c : Int) : Nat → Prop
  | src {i : Nat} : i < n → clampF a b i c < ent X i → Ins n lo hi a b X c i
  | right {i : Nat} : Ins n lo hi a b X c i → i + 1 < n → lo (i + 1) < X (i + 1) → Ins n lo hi a b X c (i + 1)
  | left {i : Nat} : Ins n lo hi a b X c (i + 1) → X (i + 1) < hi (i + 1) → Ins n lo hi a b X c i
section
variable {n : Nat} {lo hi a b X Y : Nat → Int} {c : Int}
theorem Ins.lt {i : Nat} (h : Ins n lo hi a b X c i) : i < n := by
  induction h with
  | src h _ => exact h
  | right _ h _ _ => exact h
  | left _ _ ih => omega
theorem Ins.mono {c c' : Int} {i : Nat} (h : Ins n lo hi a b X c' i) (l : c ≤ c') : Ins n lo hi a b X c i := by
  induction h with
  | @src i h g => exact .src h (by unfold clampF at *; omega)
  | right _ h g ih => exact .right ih h g
  | left _ g ih => exact .left ih g
end
set_option maxHeartbeats 4000000
section
variable {n : Nat} {lo hi a b X Y l : Nat → Int} {c c0 : Int}
def base (X : Nat → Int) (f : Nat) (L : Bool) : Int := if L then X f else 0
end
set_option maxHeartbeats 4000000
set_option maxHeartbeats 4000000
structure Part where
  f : Nat
  t : Nat
  L : Bool
  R : Bool
  lw : Int
  hg : Int
set_option maxHeartbeats 4000000
def TL (H : Hp) (ts : List Addr) (vs : List (List V)) : Prop := ts.length = vs.length ∧ ∀ (i : Nat) (t : Addr), ts[i]? = some t → H t = some (.tup (vs.getD i []))
theorem TL.nil (H : Hp) : TL H [] [] := ⟨rfl, fun _ _ h => by cases h⟩
theorem TL.put {H : Hp} {ts : List Addr} {vs : List (List V)} {c : Addr} {xs : List V} {o : HO} (t : TL H ts vs) (hc : H c = some (.lst xs)) : TL (upd H c o) ts vs := ⟨t.1, fun i a h => by
  have h1 := t.2 i a h
  rw [upd_ne (fun e => by rw [e, hc] at h1; cases h1)]
  exact h1⟩
theorem TL.more {H : Hp} {ts : List Addr} {vs : List (List V)} {c : Addr} {o : HO} (t : TL H ts vs) (hc : H c = none) : TL (upd H c o) ts vs := ⟨t.1, fun i a h => by
  have h1 := t.2 i a h
  rw [upd_ne (fun e => by rw [e, hc] at h1; cases h1)]
  exact h1⟩
theorem TL.fr {H H' : Hp} {ts : List Addr} {vs : List (List V)} (t : TL H ts vs) (f : ∀ a o, H a = some o → H' a = some o) : TL H' ts vs := ⟨t.1, fun i a h => f _ _ (t.2 i a h)⟩
theorem TL.add {H : Hp} {ts : List Addr} {vs : List (List V)} {a : Addr} {v : List V} (t : TL H ts vs) (h : H a = some (.tup v)) : TL H (ts ++ [a]) (vs ++ [v]) := by
  refine ⟨by rw [List.length_append, List.length_append, t.1] <;> rfl, fun i b hb => ?_⟩
  by_cases e : i < ts.length
  · rw [List.getElem?_append_left e] at hb
    have := t.2 i b hb
    rw [List.getD_eq_getElem?_getD, List.getElem?_append_left (by rw [← t.1]; exact e), ← List.getD_eq_getElem?_getD]
    exact this
  · have hl := (List.getElem?_eq_some_iff.mp hb).1
    rw [List.length_append, List.length_singleton] at hl
    obtain rfl : i = ts.length := by omega
    rw [List.getElem?_concat_length] at hb
    obtain rfl := Option.some.inj hb
    rw [List.getD_eq_getElem?_getD, t.1, List.getElem?_concat_length]
    exact h
set_option maxHeartbeats 4000000
set_option maxHeartbeats 4000000
def pm (p : Part) : Nat := 2 * (p.t - p.f) * (p.hg - p.lw).toNat + 1
set_option Elab.async false
set_option linter.all false
set_option maxRecDepth 100000
set_option maxHeartbeats 4000000
def gSlice (to : TE) (tl th : TO) : TG := fun v σ H Q => to σ H fun o H1 => tl σ H1 fun a H2 => th σ H2 fun c H3 => ∃ l b xs ys, ∃ i j : Int, o = .ref l ∧ v = .ref b ∧ a = some i ∧ c = some j ∧ H3 l = some (.lst xs) ∧ H3 b = some (.lst ys) ∧ l ≠ b ∧ 0 ≤ i ∧ i ≤ j ∧ j ≤ xs.length ∧ xs.length + ys.length ≤ sizeLine ∧
  Q σ (upd H3 l (.lst (xs.take i.toNat ++ ys ++ xs.drop j.toNat)))
section
variable {K : PySem.W.Frag} {σ : L2.St} {H : Hp} {Q : VK} {D : Ends}
theorem r_gsl {to : TE} {tl th : TO} {R : L2.St → Hp → Prop} {v : V} (h : to σ H fun o H1 => tl σ H1 fun a H2 => th σ H2 fun c H3 => ∃ l b xs ys, ∃ i j : Int, o = .ref l ∧ v = .ref b ∧ a = some i ∧ c = some j ∧ H3 l = some (.lst xs) ∧ H3 b = some (.lst ys) ∧ l ≠ b ∧ 0 ≤ i ∧ i ≤ j ∧ j ≤ xs.length ∧ xs.length + ys.length ≤ sizeLine ∧
  R σ (upd H3 l (.lst (xs.take i.toNat ++ ys ++ xs.drop j.toNat)))) : gSlice to tl th v σ H R := h
def tTru (K : PySem.W.Frag) (ta : TE) : TT := fun σ H Q => ta σ H fun x H' => ∃ k, TruV K x H' k ∧ Q k H'
theorem r_tru {ta : TE} {QB : Bool → Hp → Prop} (h : ta σ H fun x H' => ∃ k, TruV K x H' k ∧ QB k H') : tTru K ta σ H QB := h
theorem r_truL {p : Addr} {xs : List V} {P : Bool → Prop} (s : SqL K H p xs) (q : P (!xs.isEmpty)) : ∃ k, TruV K (.ref p) H k ∧ P k := ⟨_, .inl ⟨xs, s, rfl⟩, q⟩
theorem r_bm0 {T : String} {rr : V → List V → Hp → VK → Prop} {to : TE} (h : to σ H fun x H1 => tyV K T x H1 ∧ rr x [] H1 Q) : tBM0 K T rr to σ H Q := h
theorem r_star {te : TE} {t : TA} {R : List V → Hp → Prop} (h : te σ H fun x H1 => ∃ p xs, x = V.ref p ∧ (SqT K H1 p xs ∨ SqL K H1 p xs) ∧ t σ H1 fun ys H2 => R (xs ++ ys) H2) : StX.tStar K te t σ H R := h
theorem r_exstarT {p : Addr} {xs : List V} {P : List V → Prop} (s : SqT K H p xs) (q : P xs) : ∃ p' ys, V.ref p = V.ref p' ∧ (SqT K H p' ys ∨ SqL K H p' ys) ∧ P ys := ⟨p, xs, rfl, .inl s, q⟩
theorem r_aug {i : Nat} {te : TE} {ti : TIp} {v : V} (h : σ[i]? = some (some v)) (q : te σ H fun y H1 => ti v y H1 fun z H2 => D.nx (σ.set i (some z)) H2) : tAug i te ti D σ H := ⟨v, h, q⟩
theorem r_break (h : D.bk σ H) : tBreak D σ H := h
theorem r_cont (h : D.ct σ H) : tCont D σ H := h
end
set_option Elab.async false
set_option linter.all false
set_option maxRecDepth 100000
set_option maxHeartbeats 4000000
open PySem PySem.Spec PyProof.Rows L2 SrtO Srt PySem.W
section
variable {P : Program} {w : World} {A : Around} {E : Value → Shared → Prop} {s : Shared}
/-- an empty set, as it is laid -/
abbrev setObj0 (w : World) : Obj := { cls := .type "set", dict := none, data := .set #[] 0 (.fresh 0 0 (!w.params.followText "set-order")) }
theorem call_setL {l : Addr} {its : Array Value} (ns : List Int) {Q : Value → Shared → Prop} (hd : A.handled = none) (hl : s.heap.IsList l its) (hi : IntsAre its.toList ns) (hb : ns.length + 1 < scanBound)
    (q : ∀ (g : Heap) (tk c : Nat), SetR w g s.heap.objs.size (fun j => decide (j ∈ ns)) c → c ≤ ns.length → (∀ b o, s.heap.get? b = some o → g.get? b = some o) → Q (.ref s.heap.objs.size) { s with heap := g, toks := tk }) :
    wpAny (model P w) A (call (.type "set") [.ref l]) Q E s := by
  have sz : its.size = ns.length := by
    have z := IntsAre.length hi
    rwa [Array.length_toList] at z
  obtain ⟨c0, tl, m0⟩ := F.called_set.mro
  have m1 := F.called_set.made
  have m2 := F.called_set.sub
  refine wpAny_call (codeAny_of_tree ?_)
  show wpAny _ _ (callAny (.type "set") _) _ _ s
  refine wpAny_pure (And.intro (Code.quiet_builtin _ (by decide +kernel)) (codeAny_builtin F.entry_type_call ?_))
  rw [Around.under_plain (weight_type_call_type "set" ([Value.ref l]) []) rfl]
  have m3 := F.called_set.notType
  have m4 := F.called_set.canCreate
  have m5 := F.typeCall_set_1 (.ref l)
  repeat (any_goals (first | wp_step | assumption))
  refine codeAny_mono (code_set_led1 (.ref l) (E := E) (Q₁ := fun v s1 => v = .ref s.heap.objs.size ∧ s1 = { s with heap := s.heap.push (setObj0 w) }) ⟨rfl, rfl⟩) fun r s1 hr => ?_
  cases r with
  | error e => exact hr
  | ok fl =>
    cases fl with
    | ret v =>
      obtain ⟨rfl, rfl⟩ := hr
      have g0 : (s.heap.push (setObj0 w)).get? s.heap.objs.size = some (setObj0 w) := Heap.get?_push_size _ rfl
      have ty : Shared.TypeIs { s with heap := s.heap.push (setObj0 w) } (.ref s.heap.objs.size) "set" := ⟨_, g0, rfl⟩
      have m6 := F.called_set.init.lookup
      have m7 := F.called_set.init.bind (Value.ref s.heap.objs.size)
      repeat (any_goals (first | wp_step | assumption))
      refine codeAny_mono (codeAny_call_builtin (R := wants (fun r s2 => r = .none ∧ ∃ g tk c, s2 = { s with heap := g, toks := tk } ∧ SetR w g s.heap.objs.size (fun j => decide (j ∈ ns)) c ∧ c ≤ ns.length ∧ (∀ b o, s.heap.get? b = some o → g.get? b = some o)) E) F.called_set.init.plain F.entry_set_init (check_set_init_1 ty ?_)) fun r2 s2 hr2 => ?_
      · obtain ⟨o, ho, hc, n0, hdt⟩ := hl
        obtain ⟨oc, od, ot, os⟩ := o
        simp only at hc hdt
        subst hc
        subst hdt
        have ho1 : (s.heap.push (setObj0 w)).get? l = some { cls := .type "list", dict := od, data := .seq its n0, slots := os } := Heap.get?_push_of_some _ ho
        have m8 := F.sub_list_set
        have m9 := F.sub_list_frozenset
        have ne : (Value.type "list" == Value.type "dict") = false := by decide
        have l1 : (s.heap.push (setObj0 w)).IsList l its := ⟨_, ho1, rfl, n0, rfl⟩
        unfold Builtin.«set.__init__» noKeywords Builtin.Frozenset.updateFrom
        generalize hp : pyIter = pI
        wp_walk
        subst hp
        refine wpAny_pyIter_list l1 ?_
        refine wpAny_bind (wpAny_runValue ?_)
        have hlt : l < s.heap.objs.size := Heap.lt_size ho
        have h3 : A.in1.in1.in1.handled = none := by simp [hd]
        have z1 : (s.heap.push (setObj0 w)).objs.size = s.heap.objs.size + 1 := Heap.size_push ..
        have n1 : l ≠ (s.heap.push (setObj0 w)).objs.size := fun e => by
          rw [z1] at e
          exact absurd e (Nat.ne_of_lt (Nat.lt_succ_of_lt hlt))
        have n2 : s.heap.objs.size ∉ [(s.heap.push (setObj0 w)).objs.size, l] := by
          rw [z1]
          intro m
          rcases List.mem_cons.mp m with e | m
          · exact absurd e (Nat.ne_of_lt (Nat.lt_succ_self _))
          · exact absurd (List.mem_singleton.mp m).symm (Nat.ne_of_lt hlt)
        have hv : ∀ (i : Nat) (v : Value), its[i]? = some v → ∃ k t, ns[i]? = some k ∧ v = .int k t := fun i v e => by
          have hi2 : i < ns.length := by rw [← sz]; exact (Array.getElem?_eq_some_iff.mp e).1
          obtain ⟨t, e2⟩ := PyProof.Rows.IntsAre.int_at hi i v (by rwa [Array.getElem?_toList])
          refine ⟨ns[i], t, List.getElem?_eq_getElem hi2, e2.trans ?_⟩
          rw [List.getD_eq_getElem?_getD, List.getElem?_eq_getElem hi2] <;> rfl
        refine set_update_ints ((Walks.list h3 _ l n1 its).toS) s.heap.objs.size n2 ns sz hb hv (its.size - 0) 0 _ (by omega) (Nat.zero_le _) ⟨⟨_, Heap.get?_push_size _ rfl, rfl, rfl⟩, (l1.push _)⟩ ?hS ?hR
        case hS =>
          exact ⟨0, Nat.le_refl 0, setR_new_at (show ((s.heap.push (setObj0 w)).push _).get? s.heap.objs.size = some (setObj0 w) from Heap.get?_push_of_some _ g0)⟩
        case hR =>
          intro s3 c3 hm hc3 hS3
          obtain ⟨g, g2, d3, tk3, os3⟩ := s3
          obtain rfl : g2 = s.gens := hm.gens
          obtain rfl : d3 = s.drawn := hm.drawn
          obtain rfl : os3 = s.os := hm.os
          show wpAny _ _ _ _ _ _
          refine wpAny_pure ?_
          show wpAny _ _ (ret Value.none) _ _ _
          refine wpAny_pure ⟨rfl, g, tk3, c3, rfl, hS3, by omega, fun b o e => ?_⟩
          have b0 : b < s.heap.objs.size := Heap.lt_size e
          refine hm.heap b o (fun m => ?_) (Heap.get?_push_of_some _ (Heap.get?_push_of_some _ e))
          rcases List.mem_cons.mp m with e1 | m
          · exact absurd e1 (Nat.ne_of_lt b0)
          · have e1 := List.mem_singleton.mp m
            rw [z1] at e1
            exact absurd e1 (Nat.ne_of_lt (Nat.lt_succ_of_lt b0))
      · cases r2 with
        | error e => exact hr2
        | ok fl2 =>
          cases fl2 with
          | ret r =>
            obtain ⟨rfl, g, tk, c, rfl, a1, a2, a3⟩ := hr2
            repeat (any_goals (first | wp_step | assumption))
            exact q _ _ _ a1 a2 a3
          | _ => exact hr2.elim
    | _ => exact hr.elim
end
section
variable {X : Cx}
/-- set(xs) of a list of numbers -/
def rSetL (w : World) (K : PySem.W.Frag) : List V → Hp → VK → Prop := fun vs H Q => ∃ (a : Addr) (ns : List Int), vs = [V.ref a] ∧ SqL K H a (ns.map V.int) ∧ ns.length ≤ 4000 ∧ ∀ (p : Addr) (c : Nat), c ≤ ns.length → H p = none → Q (.ref p) (upd H p (SetO w p (fun j => decide (j ∈ ns)) c))
theorem cr_setL (hc : X.calm = true) : CallR X (.type "set") (rSetL X.w X.K) := by
  intro pins s σ H vs us Q I r h
  obtain ⟨a, ns, rfl, hs, hn, q⟩ := h
  obtain ⟨its, rv, hl, hz⟩ := I.list hs
  rw [Vals.ref1 r]
  refine call_setL ns (I.ok.hd hc) hl.isList (show IntsAre its.toArray.toList ns from rv.ints) (by unfold scanBound; omega) fun g tk c R hcn k => ?_
  exact ⟨.ref _, upd H s.heap.objs.size (SetO X.w s.heap.objs.size (fun j => decide (j ∈ ns)) c), I.laid (t' := tk) k (Nat.le_refl _) (setO_new R), rfl, q _ c hcn (I.hok.fresh (Nat.le_refl _))⟩
end
section
variable {P : Program} {w : World} {A : Around} {E : Value → Shared → Prop} {s : Shared} {a : Addr}
theorem sorted_setN {S : Int → Bool} {n : Nat} {Q : Value → Shared → Prop} (R : SetR w s.heap a S n) (hd : A.handled = none) (hn : n ≤ sizeLine)
    (q : ∀ s1 p (out : Array Value) (c : Nat) (ns : List Int), (∀ b o, s.heap.get? b = some o → s1.heap.get? b = some o) → s1.gens = s.gens → s1.os = s.os → s.heap.objs.size ≤ p →
      s1.heap.get? p = some (seqObj "list" out c) → IntsAre out.toList ns → ns.Pairwise (· < ·) → (∀ k, k ∈ ns ↔ S k = true) → ns.length = n → Q (.ref p) s1) :
    wpAny (model P w) A (call (.builtin "sorted") [.ref a]) Q E s := by
  obtain ⟨o, es, ep, t, ho, hx, hdt, good, nd, mem, bd, fits, cnt, ris, led⟩ := R
  refine Calls.call_function_entry (by exact kind_sorted) plain_sorted entry_sorted (args_sorted1 _) ?_
  unfold Builtin.«sorted»
  refine wpAny_bind (m := checkCount "sorted" 1 1 _) ?_
  refine wpAny_pure ?_
  refine wpAny_bind (collect_set (A := A.in1) hd ⟨o, ho, hx.1, hdt⟩ fits bd ris led fun s1 vs k1 z1 g1 o1 pm => ?_)
  have lv : vs.length = n := by
    rw [pm.length_eq, List.length_map, Array.length_toList]
    exact cnt
  have iv : IntsAre vs (vs.map Builtin.Re.reRawOf) := ints_of vs fun v m => by
    obtain ⟨e, he, ev⟩ := List.mem_map.mp (pm.mem_iff.mp m)
    obtain ⟨k, tk, e2, _⟩ := good e he
    exact ⟨k, tk, ev.symm.trans e2⟩
  have pk : (vs.map Builtin.Re.reRawOf).Perm (es.toList.map keyOf) := by
    have z := pm.map Builtin.Re.reRawOf
    rwa [List.map_map] at z
  have hz : vs.length ≤ sizeLine := by omega
  refine wpAny_bind (wpAny_newList ?_ hz)
  have gl : (s1.heap.push (seqObj "list" vs.toArray 0)).get? s1.heap.objs.size = some (seqObj "list" vs.toArray 0) := Heap.get?_push_size _ rfl
  refine wpAny_bind (wpAny_holding (wpAny_call_entry slot_list_sort ⟨_, gl, rfl⟩ entry_list_sort (list_sort_ord swo_int gl hz (fun h2 => ints_sortable iv h2) fun out x1 x2 => ⟨_, rfl, ?_⟩) (args_list_sort _)))
  obtain ⟨y1, y2, y3⟩ := ints_out iv x1 x2
  obtain ⟨c, hc⟩ := sortedHeap_at (vs := vs) (out := out.toArray) gl
  have pn := y2.trans pk
  refine wpAny_pure ⟨_, rfl, q _ s1.heap.objs.size out.toArray c _ (fun b u e => ?_) g1 o1 z1 hc y1 (lt_of_le_nodup _ y3 (pn.nodup_iff.mpr nd)) (fun k => by rw [pn.mem_iff, ← mem k]) ?_⟩
  · have e2 := k1 b u e
    have lt2 := Heap.lt_size e2
    show (sortedHeap (s1.heap.push (seqObj "list" vs.toArray 0)) s1.heap.objs.size vs _).get? b = some u
    rw [sortedHeap_old (Nat.ne_of_lt lt2) (by rw [size_push']; exact Nat.lt_succ_of_lt lt2)]
    exact Heap.get?_push_of_some _ e2
  · rw [pn.length_eq, List.length_map, Array.length_toList]
    exact cnt
end
section
variable {X : Cx}
/-- sorted of a set of numbers -/
def rSortedSN (w : World) : List V → Hp → VK → Prop := fun vs H Q => ∃ (a : Addr) (S : Int → Bool) (n : Nat), vs = [V.ref a] ∧ H a = some (SetO w a S n) ∧ n ≤ 4000 ∧
  ∀ (ns : List Int) (p : Addr), ns.Pairwise (· < ·) → (∀ k : Int, k ∈ ns ↔ S k = true) → ns.length = n → H p = none → Q (.ref p) (upd H p (.lst (ns.map V.int)))
theorem cr_sortedSN (hc : X.calm = true) : CallR X (.builtin "sorted") (rSortedSN X.w) := by
  intro pins s σ H vs us Q I r h
  obtain ⟨a, S, n, rfl, ha, hn, q⟩ := h
  rw [Vals.ref1 r]
  have zl : n ≤ sizeLine := by rw [sizeLine_eq]; omega
  refine sorted_setN (setO_get I ha) (I.ok.hd hc) zl fun s1 p out c ns k g o hp gp hi x1 x2 x3 => ?_
  have ln : (ns.map V.int).length ≤ sizeLine := by rw [List.length_map, x3]; exact zl
  have fp : H p = none := I.hok.fresh hp
  have J : Inv X pins σ (upd H p (.lst (ns.map V.int))) { s with heap := s1.heap, gens := s1.gens, drawn := s1.drawn, toks := s1.toks } :=
    I.call (ch := []) (Un.laid k hp fp) (I.hok.laid k hp ⟨ln, out.toList, c, vals_of_ints hi, gp⟩) (by rw [g]; exact I.bare) (fun _ z => nomatch z)
  have e : s1 = { s with heap := s1.heap, gens := s1.gens, drawn := s1.drawn, toks := s1.toks } := by
    cases s1
    cases s
    cases o
    rfl
  rw [e]
  exact ⟨.ref p, _, J, rfl, q ns p x1 x2 x3 fp⟩
/-- min(xs, default=None) of numbers -/
theorem minOf_int : ∀ (xs : List Int) (x : Int), minOf x xs ∈ x :: xs ∧ ∀ y ∈ x :: xs, minOf x xs ≤ y
  | [], x => ⟨List.mem_cons_self, fun y m => by
    rcases List.mem_cons.mp m with rfl | m
    · exact Int.le_refl _
    · cases m⟩
  | z :: zs, x => by
    obtain ⟨a1, a2⟩ := minOf_int zs (if DatumOrd.lt z x = true then z else x)
    have e : minOf x (z :: zs) = minOf (if DatumOrd.lt z x = true then z else x) zs := rfl
    have lt : DatumOrd.lt z x = decide (z < x) := rfl
    rw [e]
    rw [lt] at a1 a2 ⊢
    by_cases c : z < x
    · rw [if_pos (decide_eq_true c)] at a1 a2 ⊢
      refine ⟨List.mem_cons_of_mem _ a1, fun y m => ?_⟩
      have b := a2 z List.mem_cons_self
      rcases List.mem_cons.mp m with rfl | m
      · omega
      · exact a2 y m
    · rw [if_neg (by rw [decide_eq_true_eq]; exact c)] at a1 a2 ⊢
      refine ⟨?_, fun y m => ?_⟩
      · rcases List.mem_cons.mp a1 with q | q
        · rw [q]
          exact List.mem_cons_self
        · exact List.mem_cons_of_mem _ (List.mem_cons_of_mem _ q)
      have b := a2 x List.mem_cons_self
      rcases List.mem_cons.mp m with rfl | m
      · exact b
      · rcases List.mem_cons.mp m with rfl | m
        · omega
        · exact a2 y (List.mem_cons_of_mem _ m)
theorem holdAll_ints {h : Heap} : ∀ {vs : List Value} {ns : List Int}, IntsAre vs ns → HoldAll h vs ns
  | _, _, .nil => HoldAll.nil
  | _, _, .cons n t r => HoldAll.cons (holds_int n t) (holdAll_ints r)
def rMinD (K : PySem.W.Frag) : List V → List V → Hp → VK → Prop := fun vs zs H Q => ∃ (a : Addr) (ns : List Int), vs = [V.ref a] ∧ zs = [V.non] ∧ SqL K H a (ns.map V.int) ∧ (ns = [] → Q .non H) ∧ ∀ m, m ∈ ns → (∀ x ∈ ns, m ≤ x) → Q (.int m) H
theorem cr_minD (hc : X.calm = true) (hu : X.A.units + 65 < cLine) : CallRK X (.builtin "min") [Str.ofString "default"] (rMinD X.K) := by
  intro pins s σ H vs zs us ws Q I r rz h
  obtain ⟨a, ns, rfl, rfl, hs, q0, q⟩ := h
  obtain ⟨its, rv, hl, _⟩ := I.list hs
  obtain ⟨w1, rfl, e1⟩ := vals1 rz
  obtain rfl : w1 = Value.none := e1
  obtain rfl := Vals.ref1 r
  refine min_list_datum_default (α := Int) (xs := ns) (I.ok.hd hc) hl.isList (holdAll_ints (show IntsAre its.toArray.toList ns from rv.ints)) (by first | (have e : Datum.depth Int = 0 := rfl; omega) | (have e : Datum.depth Int = 1 := rfl; omega)) (fun e h' tk k => ?_) fun y ys i v h' tk e hi hv k => ?_
  · exact ⟨.non, H, I.kept k, rfl, q0 e⟩
  · obtain ⟨t, rfl⟩ := int_of_holds hv
    subst e
    obtain ⟨b1, b2⟩ := minOf_int ys y
    exact ⟨.int _, H, I.kept k, ⟨_, rfl⟩, q _ b1 b2⟩
/-- what walks meet -/
theorem r_setOf {w : World} {K : PySem.W.Frag} {H : Hp} {Q : VK} {a : Addr} {ns : List Int} (h : SqL K H a (ns.map V.int)) (hn : ns.length ≤ 4000) (q : ∀ (p : Addr) (c : Nat), c ≤ ns.length → H p = none → Q (.ref p) (upd H p (SetO w p (fun j => decide (j ∈ ns)) c))) : rSetL w K [.ref a] H Q := ⟨a, ns, rfl, h, hn, q⟩
theorem r_sortSN {w : World} {H : Hp} {Q : VK} {a : Addr} {ns : List Int} {n : Nat} (h : H a = some (SetO w a (fun j => decide (j ∈ ns)) n)) (hn : n ≤ 4000) (q : ∀ (ms : List Int) (p : Addr), ms.Pairwise (· < ·) → (∀ k, k ∈ ms ↔ k ∈ ns) → ms.length = n → H p = none → Q (.ref p) (upd H p (.lst (ms.map V.int)))) : rSortedSN w [.ref a] H Q :=
  ⟨a, _, n, rfl, h, hn, fun ms p h1 h2 h3 h4 => q ms p h1 (fun k => by rw [h2 k, decide_eq_true_eq]) h3 h4⟩
theorem r_minD {K : PySem.W.Frag} {H : Hp} {Q : VK} {a : Addr} {ns : List Int} (h : SqL K H a (ns.map V.int)) (q0 : ns = [] → Q .non H) (q : ∀ m, m ∈ ns → (∀ x ∈ ns, m ≤ x) → Q (.int m) H) : rMinD K [.ref a] [.non] H Q := ⟨a, ns, rfl, rfl, h, q0, q⟩
end
set_option Elab.async false
set_option linter.all false
set_option maxRecDepth 100000
set_option maxHeartbeats 4000000
def minO : List Int → Option Int
  | [] => none
  | x :: xs => some (xs.foldl min x)
def optV : Option Int → V
  | none => .non
  | some x => .int x
theorem tk_sum {ns : List Int} {i : Nat} (h : i < ns.length) : (ns.take (i + 1)).sum = (ns.take i).sum + nth ns i := by
  rw [List.take_succ, List.sum_append, List.getElem?_eq_getElem h]
  unfold nth
  rw [List.getD_eq_getElem?_getD, List.getElem?_eq_getElem h]
  simp
def hF (R : Int) (ns : List Int) : Nat → Int
  | 0 => 0
  | i + 1 => max 0 (hF R ns i - R) + nth ns i
def mF (R : Int) (ns : List Int) : Nat → Int
  | 0 => 0
  | i + 1 => max (mF R ns i) (hF R ns (i + 1))
def bF (ns : List Int) (R : Int) : Int := mF R ns ns.length
/-- the bits of j - i frames behind the first i -/
def wnd (ns : List Int) (i j : Nat) : Int := (ns.take j).sum - (ns.take i).sum
theorem wnd_next {ns : List Int} {i j : Nat} (h : j < ns.length) : wnd ns i (j + 1) = wnd ns i j + nth ns j := by
  unfold wnd
  rw [tk_sum h]
  omega
section
variable {ns : List Int} {R : Int}
theorem hF_ge (r0 : 0 ≤ R) : ∀ (j i : Nat), i < j → j ≤ ns.length → wnd ns i j - ((j - i - 1 : Nat) : Int) * R ≤ hF R ns j
  | 0, i, h, _ => absurd h (Nat.not_lt_zero _)
  | j + 1, i, h, hj => by
    show _ ≤ max 0 (hF R ns j - R) + nth ns j
    rw [wnd_next (by omega)]
    rcases Nat.lt_or_ge i j with c | c
    · have ih := hF_ge r0 j i c (by omega)
      have e : ((j + 1 - i - 1 : Nat) : Int) = ((j - i - 1 : Nat) : Int) + 1 := by omega
      rw [e, Int.add_mul, Int.one_mul]
      omega
    · obtain rfl : i = j := by omega
      have e : wnd ns i i = 0 := by unfold wnd; omega
      rw [e, show i + 1 - i - 1 = 0 by omega]
      simp only [Int.natCast_zero, Int.zero_mul]
      omega
theorem hF_is (r0 : 0 ≤ R) : ∀ (j : Nat), 0 < j → j ≤ ns.length → ∃ i, i < j ∧ hF R ns j = wnd ns i j - ((j - i - 1 : Nat) : Int) * R
  | 0, h, _ => absurd h (Nat.not_lt_zero _)
  | j + 1, _, hj => by
    have s : ∃ i, i < j + 1 ∧ max 0 (hF R ns j - R) + nth ns j = wnd ns i (j + 1) - ((j + 1 - i - 1 : Nat) : Int) * R := by
      rcases Int.le_total (hF R ns j) R with c | c
      · refine ⟨j, by omega, ?_⟩
        have e : wnd ns j j = 0 := by unfold wnd; omega
        rw [wnd_next (by omega), e, show j + 1 - j - 1 = 0 by omega]
        simp only [Int.natCast_zero, Int.zero_mul]
        omega
      · rcases Nat.eq_zero_or_pos j with z | z
        · subst z
          refine ⟨0, by omega, ?_⟩
          have e : wnd ns 0 0 = 0 := by unfold wnd; omega
          have e0 : hF R ns 0 = 0 := rfl
          rw [e0] at c
          rw [wnd_next (by omega), e, e0, show 0 + 1 - 0 - 1 = 0 by omega]
          simp only [Int.natCast_zero, Int.zero_mul]
          omega
        · obtain ⟨i, hi, e⟩ := hF_is r0 j z (by omega)
          refine ⟨i, by omega, ?_⟩
          have e2 : ((j + 1 - i - 1 : Nat) : Int) = ((j - i - 1 : Nat) : Int) + 1 := by omega
          rw [wnd_next (by omega), e2, Int.add_mul, Int.one_mul]
          omega
    exact s
theorem mF_ge : ∀ (k j : Nat), j ≤ k → 0 < j → hF R ns j ≤ mF R ns k
  | 0, j, h, p => by omega
  | k + 1, j, h, p => by
    show _ ≤ max (mF R ns k) (hF R ns (k + 1))
    rcases Nat.lt_or_ge j (k + 1) with c | c
    · have := mF_ge k j (by omega) p
      omega
    · obtain rfl : j = k + 1 := by omega
      omega
theorem mF_is (p : ∀ x ∈ ns, 0 ≤ x) : ∀ (k : Nat), 0 < k → k ≤ ns.length → ∃ j, 0 < j ∧ j ≤ k ∧ mF R ns k = hF R ns j
  | 0, h, _ => absurd h (Nat.not_lt_zero _)
  | k + 1, _, hk => by
    have s : ∃ j, 0 < j ∧ j ≤ k + 1 ∧ max (mF R ns k) (hF R ns (k + 1)) = hF R ns j := by
      rcases Int.le_total (mF R ns k) (hF R ns (k + 1)) with c | c
      · exact ⟨k + 1, by omega, Nat.le_refl _, by omega⟩
      · rcases Nat.eq_zero_or_pos k with z | z
        · subst z
          refine ⟨1, by omega, by omega, ?_⟩
          have e0 : mF R ns 0 = 0 := rfl
          have e1 : hF R ns (0 + 1) = max 0 (hF R ns 0 - R) + nth ns 0 := rfl
          have q := p _ (nth_mem (ns := ns) (i := 0) (by omega))
          have q1 : 0 ≤ hF R ns (0 + 1) := by
            rw [e1]
            omega
          show max (mF R ns 0) (hF R ns (0 + 1)) = hF R ns (0 + 1)
          rw [e0]
          omega
        · obtain ⟨j, j1, j2, e⟩ := mF_is p k z (by omega)
          exact ⟨j, j1, by omega, by omega⟩
    exact s
end
/-- the greatest sum of m + 1 frames in sequence -/
structure IsW (ns : List Int) (W : List Int) : Prop where
  len : W.length = ns.length
  is : ∀ m, m < ns.length → ∃ i, i + m + 1 ≤ ns.length ∧ nth W m = wnd ns i (i + m + 1)
  ge : ∀ m i, i + m + 1 ≤ ns.length → wnd ns i (i + m + 1) ≤ nth W m
section
variable {ns W : List Int} {R : Int}
theorem bF_ge (iw : IsW ns W) (r0 : 0 ≤ R) {m : Nat} (hm : m < ns.length) : nth W m - (m : Int) * R ≤ bF ns R := by
  obtain ⟨i, hi, e⟩ := iw.is m hm
  have a := hF_ge r0 (i + m + 1) i (by omega) hi
  have b := mF_ge (R := R) (ns := ns) ns.length (i + m + 1) hi (by omega)
  rw [show i + m + 1 - i - 1 = m by omega] at a
  rw [e]
  exact Int.le_trans a b
theorem bF_is (iw : IsW ns W) (p : ∀ x ∈ ns, 0 ≤ x) (r0 : 0 ≤ R) (n0 : 0 < ns.length) : ∃ m, m < ns.length ∧ bF ns R = nth W m - (m : Int) * R := by
  obtain ⟨j, j1, j2, e⟩ := mF_is (R := R) p ns.length n0 (Nat.le_refl _)
  obtain ⟨i, i1, e2⟩ := hF_is (R := R) (ns := ns) r0 j j1 j2
  refine ⟨j - i - 1, by omega, ?_⟩
  have a := iw.ge (j - i - 1) i (by omega)
  have b := bF_ge iw r0 (m := j - i - 1) (by omega)
  rw [show i + (j - i - 1) + 1 = j by omega] at a
  have e3 : bF ns R = hF R ns j := e
  omega
/-- one rate more: what falls -/
def fallF (ns : List Int) (r : Int) : Int := bF ns r - bF ns (r + 1)
theorem fall_ge (iw : IsW ns W) (p : ∀ x ∈ ns, 0 ≤ x) (r0 : 0 ≤ R) (n0 : 0 < ns.length) : ∃ m : Nat, m < ns.length ∧ (m : Int) ≤ fallF ns R ∧ bF ns (R + 1) = nth W m - (m : Int) * (R + 1) := by
  obtain ⟨m, hm, e⟩ := bF_is iw p (R := R + 1) (by omega) n0
  have a := bF_ge iw r0 hm
  refine ⟨m, hm, ?_, e⟩
  unfold fallF
  rw [e, Int.mul_add, Int.mul_one]
  omega
theorem fall_le (iw : IsW ns W) (p : ∀ x ∈ ns, 0 ≤ x) (r0 : 0 ≤ R) (n0 : 0 < ns.length) : fallF ns R < ns.length := by
  obtain ⟨m, hm, e⟩ := bF_is iw p r0 n0
  have a := bF_ge iw (R := R + 1) (by omega) hm
  rw [Int.mul_add, Int.mul_one] at a
  unfold fallF
  omega
theorem fall_pos (iw : IsW ns W) (p : ∀ x ∈ ns, 0 ≤ x) (r0 : 0 ≤ R) (n0 : 0 < ns.length) : 0 ≤ fallF ns R := by
  obtain ⟨m, _, h, _⟩ := fall_ge iw p r0 n0
  omega
/-- at and behind the first rate a piece is not above the buffer -/
theorem piece_ge (iw : IsW ns W) (p : ∀ x ∈ ns, 0 ≤ x) (r0 : 0 ≤ R) (n0 : 0 < ns.length) (k : Nat) : bF ns R - fallF ns R * (k : Int) ≤ bF ns (R + k) := by
  cases k with
  | zero => simp
  | succ k =>
    obtain ⟨m, hm, h1, h2⟩ := fall_ge iw p r0 n0
    have a := bF_ge iw (R := R + (k + 1 : Nat)) (by omega) hm
    have e : (m : Int) * (R + (k + 1 : Nat)) = (m : Int) * (R + 1) + (m : Int) * k := by
      rw [show R + ((k + 1 : Nat) : Int) = R + 1 + k by omega, Int.mul_add (m : Int) (R + 1)]
    have e2 : fallF ns R * ((k + 1 : Nat) : Int) = fallF ns R * k + fallF ns R := by
      rw [Int.natCast_add, Int.mul_add]
      simp
    have b : (m : Int) * k ≤ fallF ns R * k := Int.mul_le_mul_of_nonneg_right h1 (by omega)
    have e3 : fallF ns R = bF ns R - bF ns (R + 1) := rfl
    omega
/-- where the line of s meets the piece -/
def endF (ns W : List Int) (R : Int) (s : Nat) : Int := (bF ns R + fallF ns R * R - nth W s) / (fallF ns R - (s : Int))
theorem end_le {s : Nat} (hs : (s : Int) < fallF ns R) {q : Int} : q ≤ endF ns W R s ↔ nth W s - (s : Int) * q ≤ bF ns R - fallF ns R * (q - R) := by
  unfold endF
  rw [Int.le_ediv_iff_mul_le (by omega), Int.mul_sub, Int.mul_sub, Int.mul_comm q, Int.mul_comm q]
  omega
/-- the ends -/
def endsF (ns W : List Int) (R : Int) : List Int := (List.range (fallF ns R).toNat).map (endF ns W R)
theorem piece_eq (iw : IsW ns W) (p : ∀ x ∈ ns, 0 ≤ x) (r0 : 0 ≤ R) (n0 : 0 < ns.length) (k : Nat) (h : ∀ x ∈ endsF ns W R, R + k ≤ x) : bF ns (R + k) = bF ns R - fallF ns R * (k : Int) := by
  have a := piece_ge iw p r0 n0 k
  obtain ⟨m, hm, e⟩ := bF_is iw p (R := R + k) (by omega) n0
  rcases (show (m : Int) < fallF ns R ∨ fallF ns R ≤ m by omega) with c | c
  · have b := (end_le (W := W) c).mp (h _ (List.mem_map.mpr ⟨m, List.mem_range.mpr (by omega), rfl⟩))
    rw [show R + (k : Int) - R = k by omega] at b
    omega
  · have b := bF_ge iw r0 hm
    have d : fallF ns R * (k : Int) ≤ (m : Int) * k := Int.mul_le_mul_of_nonneg_right c (by omega)
    rw [Int.mul_add] at e
    omega
theorem end_gt (iw : IsW ns W) (r0 : 0 ≤ R) {x : Int} (h : x ∈ endsF ns W R) (f9 : fallF ns R < ns.length) : R + 1 ≤ x := by
  obtain ⟨s, hs, rfl⟩ := List.mem_map.mp h
  rw [List.mem_range] at hs
  refine (end_le (by omega)).mpr ?_
  have a := bF_ge iw (R := R + 1) (by omega) (m := s) (by omega)
  have e3 : fallF ns R = bF ns R - bF ns (R + 1) := rfl
  rw [show R + 1 - R = 1 by omega, Int.mul_one]
  omega
theorem end_next (iw : IsW ns W) (p : ∀ x ∈ ns, 0 ≤ x) (r0 : 0 ≤ R) (n0 : 0 < ns.length) {x : Int} (h : x ∈ endsF ns W R) (hm : ∀ y ∈ endsF ns W R, x ≤ y) : fallF ns x < fallF ns R := by
  have f9 := fall_le iw p r0 n0
  have g := end_gt iw r0 h f9
  have e1 := piece_eq iw p r0 n0 (x - R).toNat (fun y hy => by
    have := hm y hy
    omega)
  obtain ⟨s, hs, ex⟩ := List.mem_map.mp h
  rw [List.mem_range] at hs
  have c : (s : Int) < fallF ns R := by omega
  have b : ¬ x + 1 ≤ endF ns W R s := by omega
  rw [end_le c] at b
  have a := bF_ge iw (R := x + 1) (by omega) (m := s) (by omega)
  have ek : (((x - R).toNat : Nat) : Int) = x - R := by omega
  rw [ek, show R + (x - R) = x by omega] at e1
  rw [show x + 1 - R = (x - R) + 1 by omega, Int.mul_add (fallF ns R), Int.mul_one] at b
  show bF ns x - bF ns (x + 1) < _
  omega
theorem flat_eq (iw : IsW ns W) (p : ∀ x ∈ ns, 0 ≤ x) (r0 : 0 ≤ R) (n0 : 0 < ns.length) (h : fallF ns R = 0) (k : Nat) : bF ns (R + k) = bF ns R := by
  have := piece_eq iw p r0 n0 k (fun x m => by
    obtain ⟨s, hs, _⟩ := List.mem_map.mp m
    rw [List.mem_range, h] at hs
    exact absurd hs (Nat.not_lt_zero _))
  rw [h, Int.zero_mul] at this
  omega
end
structure Pc where
  lo : Int
  hi : Option Int
  v : Int
  f : Int
/-- the pieces of B from low on, all falls below top -/
inductive Good (B : Int → Int) : Int → Int → List Pc → Prop where
  | last {low top : Int} (h : 0 < top) (e : ∀ R, low ≤ R → B R = B low) : Good B low top [⟨low, none, B low, 0⟩]
  | cons {low top h f : Int} {ps : List Pc} (hl : low < h) (f0 : 0 < f) (ft : f < top) (e : ∀ R, low ≤ R → R ≤ h → B R = B low - f * (R - low)) (g : Good B h f ps) : Good B low top (⟨low, some h, B low, f⟩ :: ps)
/-- the pieces as they are told, at most k of them -/
def pcs (ns W : List Int) : Nat → Int → List Pc
  | 0, _ => []
  | k + 1, low => match minO (endsF ns W low) with
    | none => [⟨low, none, bF ns low, fallF ns low⟩]
    | some h => ⟨low, some h, bF ns low, fallF ns low⟩ :: pcs ns W k h
theorem minO_none {l : List Int} : minO l = none ↔ l = [] := by
  cases l <;> simp [minO]
theorem foldl_min : ∀ (l : List Int) (x : Int), (l.foldl min x = x ∨ l.foldl min x ∈ l) ∧ l.foldl min x ≤ x ∧ ∀ y ∈ l, l.foldl min x ≤ y
  | [], x => ⟨.inl rfl, Int.le_refl _, fun y m => nomatch m⟩
  | z :: zs, x => by
    obtain ⟨a1, a2, a3⟩ := foldl_min zs (min x z)
    rw [List.foldl_cons]
    refine ⟨?_, by omega, fun y m => ?_⟩
    · rcases a1 with e | e
      · rcases Int.le_total x z with c | c
        · left
          rw [e]
          omega
        · right
          rw [e, show min x z = z by omega]
          exact List.mem_cons_self
      · exact .inr (List.mem_cons_of_mem _ e)
    · rcases List.mem_cons.mp m with rfl | m
      · omega
      · exact a3 y m
theorem minO_some {l : List Int} {m : Int} (h : minO l = some m) : m ∈ l ∧ ∀ y ∈ l, m ≤ y := by
  cases l with
  | nil => cases h
  | cons x xs =>
    obtain rfl : xs.foldl min x = m := Option.some.inj h
    obtain ⟨a1, a2, a3⟩ := foldl_min xs x
    refine ⟨?_, fun y q => ?_⟩
    · rcases a1 with e | e
      · rw [e]
        exact List.mem_cons_self
      · exact List.mem_cons_of_mem _ e
    · rcases List.mem_cons.mp q with rfl | q
      · exact a2
      · exact a3 y q
theorem minO_is {l : List Int} {m : Int} (h : m ∈ l) (g : ∀ y ∈ l, m ≤ y) : minO l = some m := by
  cases e : minO l with
  | none =>
    rw [minO_none.mp e] at h
    cases h
  | some q =>
    obtain ⟨a, b⟩ := minO_some e
    have := b m h
    have := g q a
    rw [show q = m by omega]
section
variable {ns W : List Int}
theorem pcs_good (iw : IsW ns W) (p : ∀ x ∈ ns, 0 ≤ x) (n0 : 0 < ns.length) : ∀ (k : Nat) (low top : Int), 0 ≤ low → fallF ns low < top → fallF ns low < k → Good (bF ns) low top (pcs ns W k low)
  | 0, low, top, l0, ht, hk => by
    have := fall_pos iw p l0 n0
    omega
  | k + 1, low, top, l0, ht, hk => by
    have f0 := fall_pos iw p l0 n0
    have f9 := fall_le iw p l0 n0
    show Good _ _ _ (match minO (endsF ns W low) with | none => _ | some h => _)
    cases e : minO (endsF ns W low) with
    | none =>
      have z := minO_none.mp e
      have z1 := congrArg List.length z
      simp [endsF] at z1
      have f1 : fallF ns low = 0 := by omega
      dsimp only
      rw [f1]
      refine .last (by omega) fun R hR => ?_
      have := flat_eq iw p l0 n0 f1 (R - low).toNat
      rw [show low + ((R - low).toNat : Int) = R by omega] at this
      exact this
    | some h =>
      obtain ⟨a1, a2⟩ := minO_some e
      have g1 := end_gt iw l0 a1 f9
      have g2 := end_next iw p l0 n0 a1 a2
      have g3 : 0 < fallF ns low := by
        have h0 := fall_pos iw p (R := h) (by omega) n0
        omega
      dsimp only
      refine .cons (by omega) g3 ht (fun R r1 r2 => ?_) (pcs_good iw p n0 k h _ (by omega) g2 (by omega))
      have := piece_eq iw p l0 n0 (R - low).toNat (fun x hx => by
        have := a2 x hx
        omega)
      have e4 : ((R - low).toNat : Int) = R - low := by omega
      rw [e4, show low + (R - low) = R by omega] at this
      exact this
end
set_option Elab.async false
set_option linter.all false
set_option maxRecDepth 100000
set_option maxHeartbeats 4000000
theorem foldl_max : ∀ (l : List Int) (x : Int), (l.foldl max x = x ∨ l.foldl max x ∈ l) ∧ x ≤ l.foldl max x ∧ ∀ y ∈ l, y ≤ l.foldl max x
  | [], x => ⟨.inl rfl, Int.le_refl _, fun y m => nomatch m⟩
  | z :: zs, x => by
    obtain ⟨a1, a2, a3⟩ := foldl_max zs (max x z)
    rw [List.foldl_cons]
    refine ⟨?_, by omega, fun y m => ?_⟩
    · rcases a1 with e | e
      · rcases Int.le_total z x with c | c
        · left
          rw [e]
          omega
        · right
          rw [e, show max x z = z by omega]
          exact List.mem_cons_self
      · exact .inr (List.mem_cons_of_mem _ e)
    · rcases List.mem_cons.mp m with rfl | m
      · omega
      · exact a3 y m
def wl (ns : List Int) (m : Nat) : List Int := (List.range (ns.length - m)).map fun i => wnd ns i (i + m + 1)
def gW (ns : List Int) (m : Nat) : Int := match wl ns m with
  | [] => 0
  | x :: xs => xs.foldl max x
def gL (ns : List Int) : List Int := (List.range ns.length).map (gW ns)
theorem gW_is {ns : List Int} {m : Nat} (h : m < ns.length) : gW ns m ∈ wl ns m ∧ ∀ y ∈ wl ns m, y ≤ gW ns m := by
  unfold gW
  cases e : wl ns m with
  | nil =>
    have := congrArg List.length e
    simp [wl] at this
    omega
  | cons x xs =>
    dsimp only
    obtain ⟨a1, a2, a3⟩ := foldl_max xs x
    refine ⟨?_, fun y q => ?_⟩
    · rcases a1 with e | e
      · rw [e]
        exact List.mem_cons_self
      · exact List.mem_cons_of_mem _ e
    · rcases List.mem_cons.mp q with rfl | q
      · exact a2
      · exact a3 y q
theorem nth_rg {n i : Nat} {f : Nat → Int} (h : i < n) : nth ((List.range n).map f) i = f i := by
  unfold nth
  rw [List.getD_eq_getElem?_getD, List.getElem?_map, List.getElem?_range h]
  rfl
theorem gL_is (ns : List Int) : IsW ns (gL ns) := by
  refine ⟨by simp [gL], fun m hm => ?_, fun m i hi => ?_⟩
  · obtain ⟨i, q, e⟩ := List.mem_map.mp (gW_is hm).1
    rw [List.mem_range] at q
    exact ⟨i, by omega, by unfold gL; rw [nth_rg hm, e]⟩
  · have hm : m < ns.length := by omega
    unfold gL
    rw [nth_rg hm]
    exact (gW_is hm).2 _ (List.mem_map.mpr ⟨i, List.mem_range.mpr (by omega), rfl⟩)
theorem take_le : ∀ {ns : List Int}, (∀ x ∈ ns, 0 ≤ x) → ∀ i, 0 ≤ (ns.take i).sum ∧ (ns.take i).sum ≤ ns.sum
  | [], _, i => by simp
  | x :: ns, p, 0 => by
    have a := take_le (ns := ns) (fun y m => p y (List.mem_cons_of_mem _ m)) ns.length
    have b := p x List.mem_cons_self
    rw [List.take_length] at a
    rw [List.take_zero, List.sum_nil, List.sum_cons]
    omega
  | x :: ns, p, i + 1 => by
    have a := take_le (ns := ns) (fun y m => p y (List.mem_cons_of_mem _ m)) i
    have b := p x List.mem_cons_self
    rw [List.take_succ_cons, List.sum_cons, List.sum_cons]
    omega
section
variable {ns W : List Int} {R : Int}
theorem W_le (iw : IsW ns W) (p : ∀ x ∈ ns, 0 ≤ x) {m : Nat} (h : m < ns.length) : nth W m ≤ ns.sum := by
  obtain ⟨i, hi, e⟩ := iw.is m h
  have a := take_le p i
  have b := take_le p (i + m + 1)
  rw [e]
  unfold wnd
  omega
theorem W_0 (iw : IsW ns W) (p : ∀ x ∈ ns, 0 ≤ x) (n0 : 0 < ns.length) : 0 ≤ nth W 0 := by
  have a := iw.ge 0 0 (by omega)
  have b := p _ (nth_mem (ns := ns) (i := 0) n0)
  have c : wnd ns 0 (0 + 0 + 1) = nth ns 0 := by
    rw [wnd_next (by omega)]
    unfold wnd
    simp
  rw [c] at a
  omega
theorem bF_far (iw : IsW ns W) (p : ∀ x ∈ ns, 0 ≤ x) (n0 : 0 < ns.length) (h : ns.sum ≤ R) : bF ns R = nth W 0 := by
  have s0 := (take_le p ns.length).1
  rw [List.take_length] at s0
  have a := bF_ge iw (R := R) (by omega) n0
  have w0 := W_0 iw p n0
  obtain ⟨m, hm, e⟩ := bF_is iw p (R := R) (by omega) n0
  rcases Nat.eq_zero_or_pos m with z | z
  · subst z
    simp only [Int.natCast_zero, Int.zero_mul] at e
    omega
  · have b := W_le iw p hm
    have c : 1 * R ≤ (m : Int) * R := Int.mul_le_mul_of_nonneg_right (by omega) (by omega)
    simp only [Int.natCast_zero, Int.zero_mul] at a
    omega
theorem fall_lt (iw : IsW ns W) (p : ∀ x ∈ ns, 0 ≤ x) (n0 : 0 < ns.length) (h : 0 < fallF ns R) : R < ns.sum := by
  rcases (show R < ns.sum ∨ ns.sum ≤ R by omega) with c | c
  · exact c
  · unfold fallF at h
    rw [bF_far iw p n0 c, bF_far iw p n0 (show ns.sum ≤ R + 1 by omega)] at h
    omega
theorem end_sum (iw : IsW ns W) (p : ∀ x ∈ ns, 0 ≤ x) (r0 : 0 ≤ R) (n0 : 0 < ns.length) {x : Int} (h : x ∈ endsF ns W R) (hm : ∀ y ∈ endsF ns W R, x ≤ y) : x ≤ ns.sum := by
  have f9 := fall_le iw p r0 n0
  have g := end_gt iw r0 h f9
  have g0 : 0 < fallF ns R := by
    obtain ⟨s, hs, _⟩ := List.mem_map.mp h
    rw [List.mem_range] at hs
    omega
  have e1 := piece_eq iw p r0 n0 (x - R).toNat (fun y hy => by
    have := hm y hy
    omega)
  have e2 := piece_eq iw p r0 n0 (x - 1 - R).toNat (fun y hy => by
    have := hm y hy
    omega)
  have k1 : (((x - R).toNat : Nat) : Int) = x - 1 - R + 1 := by omega
  have k2 : (((x - 1 - R).toNat : Nat) : Int) = x - 1 - R := by omega
  rw [k1, Int.mul_add, Int.mul_one, show R + (x - 1 - R + 1) = x by omega] at e1
  rw [k2, show R + (x - 1 - R) = x - 1 by omega] at e2
  have := fall_lt iw p n0 (R := x - 1) (by
    show 0 < bF ns (x - 1) - bF ns (x - 1 + 1)
    rw [show x - 1 + 1 = x by omega]
    omega)
  omega
theorem bF_zero (iw : IsW ns W) (p : ∀ x ∈ ns, 0 ≤ x) (n0 : 0 < ns.length) : bF ns 0 = ns.sum := by
  obtain ⟨m, hm, e⟩ := bF_is iw p (R := 0) (Int.le_refl _) n0
  have a := W_le iw p hm
  have b := bF_ge iw (R := 0) (Int.le_refl _) (m := ns.length - 1) (by omega)
  have c := iw.ge (ns.length - 1) 0 (by omega)
  have d : wnd ns 0 (0 + (ns.length - 1) + 1) = ns.sum := by
    unfold wnd
    rw [show 0 + (ns.length - 1) + 1 = ns.length by omega, List.take_length]
    simp
  rw [Int.mul_zero] at b e
  omega
/-- what is known of each piece -/
structure PcB (ns : List Int) (q : Pc) : Prop where
  lo0 : 0 ≤ q.lo
  lo9 : q.lo ≤ ns.sum
  f0 : 0 ≤ q.f
  f9 : q.f < ns.length
  hi : ∀ h, q.hi = some h → q.lo < h ∧ h ≤ ns.sum
theorem pcs_bd (iw : IsW ns W) (p : ∀ x ∈ ns, 0 ≤ x) (n0 : 0 < ns.length) : ∀ (k : Nat) (low : Int), 0 ≤ low → low ≤ ns.sum → ∀ q ∈ pcs ns W k low, PcB ns q
  | 0, _, _, _, q, m => nomatch m
  | k + 1, low, l0, l9, q, m => by
    have f0 := fall_pos iw p l0 n0
    have f9 := fall_le iw p l0 n0
    have m' : q ∈ (match minO (endsF ns W low) with | none => [(⟨low, none, bF ns low, fallF ns low⟩ : Pc)] | some h => ⟨low, some h, bF ns low, fallF ns low⟩ :: pcs ns W k h) := m
    cases e : minO (endsF ns W low) with
    | none =>
      rw [e] at m'
      rw [List.mem_singleton.mp m']
      exact ⟨l0, l9, f0, f9, fun h z => nomatch z⟩
    | some h =>
      rw [e] at m'
      obtain ⟨a1, a2⟩ := minO_some e
      have g1 := end_gt iw l0 a1 f9
      have g2 := end_sum iw p l0 n0 a1 a2
      rcases List.mem_cons.mp m' with rfl | m'
      · exact ⟨l0, l9, f0, f9, fun h2 z => by
          obtain rfl := Option.some.inj z
          exact ⟨by show low < h; omega, g2⟩⟩
      · exact pcs_bd iw p n0 k h (by omega) g2 q m'
theorem pcs_len : ∀ (k : Nat) (low : Int), (pcs ns W k low).length ≤ k
  | 0, _ => Nat.le_refl _
  | k + 1, low => by
    show (match minO (endsF ns W low) with | none => [(⟨low, none, bF ns low, fallF ns low⟩ : Pc)] | some h => ⟨low, some h, bF ns low, fallF ns low⟩ :: pcs ns W k h).length ≤ _
    cases minO (endsF ns W low) with
    | none => simp
    | some h =>
      have := pcs_len k h
      simp only [List.length_cons]
      omega
end
section
variable {B : Int → Int} {low top : Int} {ps : List Pc}
theorem Good.head (g : Good B low top ps) : ∃ q qs, ps = q :: qs ∧ q.lo = low := by
  cases g with
  | last _ _ => exact ⟨_, _, rfl, rfl⟩
  | cons _ _ _ _ _ => exact ⟨_, _, rfl, rfl⟩
theorem Good.ne (g : Good B low top ps) : ps ≠ [] := by
  obtain ⟨q, qs, e, _⟩ := g.head
  rw [e]
  exact List.cons_ne_nil _ _
theorem Good.chain (g : Good B low top ps) : (ps.map fun q => optV q.hi).dropLast = ((ps.drop 1).map (·.lo)).map V.int := by
  induction g with
  | last _ _ => rfl
  | cons hl f0 ft e g ih =>
    obtain ⟨q, qs, e2, e3⟩ := g.head
    subst e2
    simp only [List.map_cons, List.drop_succ_cons, List.drop_zero] at ih ⊢
    rw [List.dropLast_cons_of_ne_nil (by simp), ih, e3]
    rfl
theorem Good.end_ (g : Good B low top ps) : ∃ qs q, ps = qs ++ [q] ∧ q.hi = none ∧ q.f = 0 ∧ ∀ r ∈ qs, ∃ h, r.hi = some h ∧ r.lo < h := by
  induction g with
  | last _ _ => exact ⟨[], _, rfl, rfl, rfl, fun r m => nomatch m⟩
  | cons hl f0 ft e g ih =>
    obtain ⟨qs, q, e1, e2, e3, e4⟩ := ih
    refine ⟨_ :: qs, q, by rw [e1]; rfl, e2, e3, fun r m => ?_⟩
    rcases List.mem_cons.mp m with rfl | m
    · exact ⟨_, rfl, hl⟩
    · exact e4 r m
theorem Good.falls (g : Good B low top ps) : (ps.map (·.f)).Pairwise (fun x y => y < x) ∧ ∀ x ∈ ps.map (·.f), x < top := by
  induction g with
  | last h _ => exact ⟨by simp, fun x m => by simp at m; omega⟩
  | cons hl f0 ft e g ih =>
    refine ⟨List.pairwise_cons.mpr ⟨ih.2, ih.1⟩, fun x m => ?_⟩
    rcases List.mem_cons.mp m with rfl | m
    · exact ft
    · have := ih.2 x m
      omega
theorem Good.at_ (g : Good B low top ps) {R : Int} : ∀ q ∈ ps, q.lo ≤ R → (∀ h, q.hi = some h → R ≤ h) → B R = q.v - q.f * (R - q.lo) := by
  induction g with
  | @last low top h e =>
    intro q m l _
    rw [List.mem_singleton.mp m] at l ⊢
    show B R = B low - 0 * (R - low)
    rw [Int.zero_mul, e R l]
    omega
  | cons hl f0 ft e g ih =>
    intro q m l u
    rcases List.mem_cons.mp m with rfl | m
    · exact e R l (u _ rfl)
    · exact ih q m l u
theorem Good.some_ (g : Good B low top ps) {R : Int} : low ≤ R → ∃ q ∈ ps, q.lo ≤ R ∧ ∀ h, q.hi = some h → R ≤ h := by
  induction g with
  | last h e =>
    intro l
    exact ⟨_, List.mem_cons_self, l, fun h z => nomatch z⟩
  | @cons low top h f ps hl f0 ft e g ih =>
    intro l
    rcases (show R ≤ h ∨ h ≤ R by omega) with c | c
    · exact ⟨_, List.mem_cons_self, l, fun h2 z => by
        obtain rfl := Option.some.inj z
        exact c⟩
    · obtain ⟨q, m, a, b⟩ := ih c
      exact ⟨q, List.mem_cons_of_mem _ m, a, b⟩
theorem Good.fall_in (g : Good B low top ps) {R : Int} : low ≤ R → B R - B (R + 1) ∈ ps.map (·.f) := by
  induction g with
  | last h e =>
    intro l
    rw [e R l, e (R + 1) (by omega)]
    simp
  | @cons low top h f ps hl f0 ft e g ih =>
    intro l
    rcases (show R + 1 ≤ h ∨ h ≤ R by omega) with c | c
    · rw [e R l (by omega), e (R + 1) (by omega) c]
      refine List.mem_cons.mpr (.inl ?_)
      rw [show R + 1 - low = R - low + 1 by omega, Int.mul_add, Int.mul_one]
      show _ = f
      omega
    · exact List.mem_cons_of_mem _ (ih c)
theorem Good.fall_of (g : Good B low top ps) : ∀ q ∈ ps, q.f = B q.lo - B (q.lo + 1) := by
  induction g with
  | @last low top h e =>
    intro q m
    rw [List.mem_singleton.mp m]
    show 0 = B low - B (low + 1)
    rw [e (low + 1) (by omega)]
    omega
  | @cons low top h f ps hl f0 ft e g ih =>
    intro q m
    rcases List.mem_cons.mp m with rfl | m
    · show f = B low - B (low + 1)
      rw [e (low + 1) (by omega) (by omega), show low + 1 - low = 1 by omega, Int.mul_one]
      omega
    · exact ih q m
theorem Good.zero_in (g : Good B low top ps) : 0 ∈ ps.map (·.f) := by
  induction g with
  | last h e => simp
  | cons hl f0 ft e g ih => exact List.mem_cons_of_mem _ ih
end
/-- the pieces of a list of frames -/
def fullP (ns : List Int) : List Pc := pcs ns (gL ns) 201 0
structure PcsOk (ns : List Int) (ps : List Pc) : Prop where
  good : Good (bF ns) 0 201 ps
  bd : ∀ q ∈ ps, PcB ns q
  len : ps.length ≤ 201
theorem full_ok {ns : List Int} (p : ∀ x ∈ ns, 0 ≤ x) (n0 : 0 < ns.length) (n9 : ns.length ≤ 200) : PcsOk ns (fullP ns) := by
  have s0 := (take_le p ns.length).1
  rw [List.take_length] at s0
  have f9 := fall_le (gL_is ns) p (R := 0) (Int.le_refl _) n0
  exact ⟨pcs_good (gL_is ns) p n0 201 0 201 (Int.le_refl _) (by omega) (by omega), pcs_bd (gL_is ns) p n0 201 0 (Int.le_refl _) s0, pcs_len 201 0⟩
/-- strictly rising lists with the same members -/
theorem rise_eq : ∀ {xs ys : List Int}, xs.Pairwise (· < ·) → ys.Pairwise (· < ·) → (∀ k, k ∈ xs ↔ k ∈ ys) → xs = ys
  | [], [], _, _, _ => rfl
  | [], y :: ys, _, _, h => absurd ((h y).mpr List.mem_cons_self) (by simp)
  | x :: xs, [], _, _, h => absurd ((h x).mp List.mem_cons_self) (by simp)
  | x :: xs, y :: ys, h1, h2, h => by
    obtain ⟨a1, a2⟩ := List.pairwise_cons.mp h1
    obtain ⟨b1, b2⟩ := List.pairwise_cons.mp h2
    have e : x = y := by
      rcases List.mem_cons.mp ((h x).mp List.mem_cons_self) with e | e
      · exact e
      · rcases List.mem_cons.mp ((h y).mpr List.mem_cons_self) with e2 | e2
        · exact e2.symm
        · have := a1 y e2
          have := b1 x e
          omega
    subst e
    rw [rise_eq a2 b2 fun k => ⟨fun m => ?_, fun m => ?_⟩]
    · rcases List.mem_cons.mp ((h k).mp (List.mem_cons_of_mem _ m)) with rfl | q
      · exact absurd (a1 k m) (Int.lt_irrefl _)
      · exact q
    · rcases List.mem_cons.mp ((h k).mpr (List.mem_cons_of_mem _ m)) with rfl | q
      · exact absurd (b1 k m) (Int.lt_irrefl _)
      · exact q
theorem fall_rev {xs ys : List Int} (h1 : xs.Pairwise (· < ·)) (h2 : ys.Pairwise (fun x y => y < x)) (h : ∀ k, k ∈ xs ↔ k ∈ ys) : xs.reverse = ys := by
  have := rise_eq (ys := ys.reverse) h1 (List.pairwise_reverse.mpr h2) fun k => by rw [h k, List.mem_reverse]
  rw [this, List.reverse_reverse]
set_option Elab.async false
set_option linter.all false
set_option maxRecDepth 100000
set_option maxHeartbeats 4000000
set_option exponentiation.threshold 2000
theorem dpAll_ints {K : PySem.W.Frag} {H : Hp} : ∀ ns : List Int, DpAll K H (ns.map V.int) (ns.map PyData.int)
  | [] => .nil
  | n :: r => .cons (.int n) (dpAll_ints r)
theorem canLay_ints : ∀ ns : List Int, PyData.canLayAll0 (ns.map PyData.int) = true
  | [] => rfl
  | n :: r => by
    rw [List.map_cons, PyData.canLayAll0, canLay_ints r]
    rfl
theorem depth_ints : ∀ ns : List Int, PyData.depthAll (ns.map PyData.int) = 0
  | [] => rfl
  | n :: r => by
    rw [List.map_cons, PyData.depthAll, depth_ints r]
    rfl
theorem shaped_ints (ns : List Int) : SeqAt.shaped (.list (ns.map PyData.int)) = true := by
  unfold SeqAt.shaped
  rw [PyData.canLay0, canLay_ints, PyData.depth, depth_ints]
  rfl
theorem r_eqI {K : PySem.W.Frag} {H : Hp} {Q : VK} {a b : Addr} {ns ms : List Int} (ha : SqL K H a (ns.map V.int)) (hb : SqL K H b (ms.map V.int)) (q : Q (.bl (decide (ns = ms))) H) : rEqD K (.ref a) (.ref b) H Q := by
  refine ⟨.list (ns.map PyData.int), .list (ms.map PyData.int), .lst ha (dpAll_ints ns), .lst hb (dpAll_ints ms), shaped_ints ns, shaped_ints ms, ?_⟩
  rw [PyData.eqv, PySem.W.ked_eqvAll]
  exact q
theorem take_sum {ns : List Int} {i : Nat} (h : i < ns.length) : (ns.take (i + 1)).sum = (ns.take i).sum + nth ns i := by
  rw [← getElem_nth h]
  exact sum_take (List.getElem?_eq_getElem h)
theorem nin {α : Type} {a : α} : a ∉ ([] : List α) := fun m => nomatch m
theorem Fr.drop {H H1 H2 : Hp} {p : Addr} (a : Fr [] H H1) (b : Fr [p] H1 H2) (h : H p = none) : Fr [] H H2 := fun x o hx e => b x o (fun m => by
  rw [List.mem_singleton.mp m, h] at e
  cases e) (a x o hx e)
theorem Fr.none {H H1 : Hp} {p : Addr} (f : Fr [] H H1) (h : H1 p = Option.none) : H p = Option.none := by
  cases e : H p with
  | none => rfl
  | some o =>
    rw [f _ _ (fun z => nomatch z) e] at h
    cases h
def revA {α : Type} (us ws : List α) : List α := us ++ ws.reverse
theorem kr_rev0 {n : Nat} {vs : List V} {us : List Value} {zs : List V} {ws : List Value} (h1 : Vals vs us) (h2 : Vals zs ws) (_ : zs.length = n) (_ : vs.length = 0) : Vals (revA vs zs) (revA us ws) := h1.append h2.reverse
/-- [f(i) for .. if p(i)], nothing that stood changed -/
theorem lc_filt {J : It} {n : Nat} {GG : Hp → Prop} {Y : Nat → Hp → V → Hp → Prop} {g : TG} {tt : TT} {te : TE} {vs : List Nat} {σ : L2.St} {H1 : Hp} {Q : VK} (w : Walk J n GG Y) (f : Nat → V) (p : Nat → Bool) (hn : n ≤ 100000) (hG : ∀ H', Fr [] H1 H' → GG H') (hY : ∀ i H' x H'', Y i H' x H'' → Fr [] H' H'')
    (he : ∀ i x H' H'' (R : VK) (N : Hp → Prop), i < n → Fr [] H1 H' → Y i H' x H'' → (p i = true → ∀ H4, Fr [] H'' H4 → R (f i) H4) → (p i = false → ∀ H4, Fr [] H'' H4 → N H4) → g x (wipe σ vs) H'' fun σ2 H2 => wipe σ2 vs = wipe σ vs ∧ tt σ2 H2 fun b H3 => if b = true then te σ2 H3 R else N H3)
    (hd : ∀ D H', H1 D = none → Fr [] H1 H' → H' D = some (.lst (((List.range n).filter p).map f)) → Q (.ref D) H') : LcJ g tt te vs σ Q J H1 := by
  intro D hD
  refine lc_it w (fun i H' => i ≤ n ∧ Fr [] H1 H' ∧ H' D = some (.lst (((List.range i).filter p).map f))) ⟨Nat.zero_le _, (Fr.refl H1).mut hD, upd_same⟩ (fun i H' _ p => hG H' p.2.1) (fun i x H' H'' hi p y => ?_) (fun H' p => hd D H' hD p.2.1 p.2.2)
  obtain ⟨p1, p2, p3⟩ := p
  have hf := hY i H' x H'' y
  refine he i x H' H'' _ _ hi p2 y (fun pi H4 e4 => ?_) (fun pi H4 e4 => ?_)
  · have e5 : Fr [] H' H4 := hf.trans e4
    refine ⟨_, e5 _ _ (fun z => nomatch z) p3, ?_, hi, (p2.trans e5).mut hD, ?_⟩
    · rw [List.length_map]
      have := List.length_filter_le p (List.range i)
      rw [List.length_range] at this
      exact Nat.lt_of_le_of_lt this (Nat.lt_of_lt_of_le (show i < 100001 by omega) (by decide))
    · rw [upd_same, List.range_succ, List.filter_append, List.map_append, List.filter_cons_of_pos (by exact pi)]
      rfl
  · have e5 : Fr [] H' H4 := hf.trans e4
    refine ⟨hi, p2.trans e5, ?_⟩
    rw [List.range_succ, List.filter_append, List.filter_cons_of_neg (by simp [pi]), List.filter_nil, List.append_nil]
    exact e5 _ _ (fun z => nomatch z) p3
/-- X_0 .. X_i -/
def sumsTo (ns : List Int) (i : Nat) : List Int := (List.range (i + 1)).map fun k => (ns.take k).sum
abbrev sums0 (ns : List Int) : List Int := sumsTo ns ns.length
theorem sumsTo_len {ns : List Int} {i : Nat} : (sumsTo ns i).length = i + 1 := by simp [sumsTo]
theorem sumsTo_succ (ns : List Int) (i : Nat) : sumsTo ns (i + 1) = sumsTo ns i ++ [(ns.take (i + 1)).sum] := by
  unfold sumsTo
  rw [List.range_succ, List.map_append]
  rfl
theorem nth_range {f : Nat → Int} {n i : Nat} (h : i < n) : nth ((List.range n).map f) i = f i := by
  unfold nth
  rw [List.getD_eq_getElem?_getD, List.getElem?_map, List.getElem?_range h]
  rfl
theorem nth_sumsTo {ns : List Int} {i k : Nat} (h : k ≤ i) : nth (sumsTo ns i) k = (ns.take k).sum := nth_range (by omega)
set_option Elab.async false
set_option linter.all false
set_option maxRecDepth 100000
set_option maxHeartbeats 4000000
def top (i : Nat) : Stmt := PySem.Challenge.pw_evenbits_k51_least_buffers_and_their_pie.main.body.getD i (.Pass ⟨0, 0, 0, 0⟩)
abbrev s_is_whole : Stmt := top 2
theorem sc_is_whole : FnScope ["thing"] ["thing"] (defScope s_is_whole) := ⟨rfl, rfl, rfl, by decide +kernel, rfl, by decide +kernel, by decide +kernel⟩
abbrev s_is_whole_list : Stmt := top 3
theorem sc_is_whole_list : FnScope ["thing", "entry"] ["thing"] (defScope s_is_whole_list) := ⟨rfl, rfl, rfl, by decide +kernel, rfl, by decide +kernel, by decide +kernel⟩
abbrev s_sums_from_zero : Stmt := top 4
theorem sc_sums_from_zero : FnScope ["row", "sums", "entry"] ["row"] (defScope s_sums_from_zero) := ⟨rfl, rfl, rfl, by decide +kernel, rfl, by decide +kernel, by decide +kernel⟩
abbrev s__check_needs : Stmt := top 12
theorem sc__check_needs : FnScope ["needs"] ["needs"] (defScope s__check_needs) := ⟨rfl, rfl, rfl, by decide +kernel, rfl, by decide +kernel, by decide +kernel⟩
abbrev s__check_numbers : Stmt := top 13
theorem sc__check_numbers : FnScope ["numbers", "number"] ["numbers"] (defScope s__check_numbers) := ⟨rfl, rfl, rfl, by decide +kernel, rfl, by decide +kernel, by decide +kernel⟩
abbrev s__buffer_at : Stmt := top 14
theorem sc__buffer_at : FnScope ["needs", "rate", "held", "most", "size"] ["needs", "rate"] (defScope s__buffer_at) := ⟨rfl, rfl, rfl, by decide +kernel, rfl, by decide +kernel, by decide +kernel⟩
abbrev s__greatest_sums : Stmt := top 15
theorem sc__greatest_sums : FnScope ["needs", "sums", "before", "after", "many"] ["needs"] (defScope s__greatest_sums) := ⟨rfl, rfl, rfl, by decide +kernel, rfl, by decide +kernel, by decide +kernel⟩
abbrev s_least_buffer : Stmt := top 10
theorem sc_least_buffer : FnScope ["needs", "rate"] ["needs", "rate"] (defScope s_least_buffer) := ⟨rfl, rfl, rfl, by decide +kernel, rfl, by decide +kernel, by decide +kernel⟩
abbrev s_buffer_pieces : Stmt := top 11
theorem sc_buffer_pieces : FnScope ["needs", "widest", "pieces", "low", "value", "fall", "ends", "high", "steps", "amount"] ["needs"] (defScope s_buffer_pieces) := ⟨rfl, rfl, rfl, by decide +kernel, rfl, by decide +kernel, by decide +kernel⟩
abbrev s__law_bag : Stmt := top 17
theorem sc__law_bag : FnScope ["script", "stir", "cell"] ["script"] (defScope s__law_bag) := ⟨rfl, rfl, rfl, by decide +kernel, rfl, by decide +kernel, by decide +kernel⟩
abbrev s__law_stirred : Stmt := top 18
theorem sc__law_stirred : FnScope ["bag", "wide", "found", "k", "mixed"] ["bag", "wide"] (defScope s__law_stirred) := ⟨rfl, rfl, rfl, by decide +kernel, rfl, by decide +kernel, by decide +kernel⟩
abbrev s__law_draw : Stmt := top 19
theorem sc__law_draw : FnScope ["bag", "wide", "found"] ["bag", "wide"] (defScope s__law_draw) := ⟨rfl, rfl, rfl, by decide +kernel, rfl, by decide +kernel, by decide +kernel⟩
abbrev s__law_alike : Stmt := top 20
theorem sc__law_alike : FnScope ["found", "due", "k"] ["found", "due"] (defScope s__law_alike) := ⟨rfl, rfl, rfl, by decide +kernel, rfl, by decide +kernel, by decide +kernel⟩
abbrev s__law_needs : Stmt := top 21
theorem sc__law_needs : FnScope ["bag", "most", "far", "k"] ["bag", "most", "far"] (defScope s__law_needs) := ⟨rfl, rfl, rfl, by decide +kernel, rfl, by decide +kernel, by decide +kernel⟩
abbrev s__law_buffer : Stmt := top 23
theorem sc__law_buffer : FnScope ["sizes", "pace", "found", "here", "size"] ["sizes", "pace"] (defScope s__law_buffer) := ⟨rfl, rfl, rfl, by decide +kernel, rfl, by decide +kernel, by decide +kernel⟩
abbrev s__law_by_pieces : Stmt := top 24
theorem sc__law_by_pieces : FnScope ["pieces", "pace", "found", "low", "high", "value", "fall"] ["pieces", "pace"] (defScope s__law_by_pieces) := ⟨rfl, rfl, rfl, by decide +kernel, rfl, by decide +kernel, by decide +kernel⟩
abbrev s__law_shape_right : Stmt := top 25
theorem sc__law_shape_right : FnScope ["pieces", "ends", "falls", "one"] ["pieces"] (defScope s__law_shape_right) := ⟨rfl, rfl, rfl, by decide +kernel, rfl, by decide +kernel, by decide +kernel⟩
abbrev s__law_small_right : Stmt := top 26
theorem sc__law_small_right : FnScope ["bag", "sizes", "pieces", "top", "pace", "due", "values", "falls", "one", "two"] ["bag"] (defScope s__law_small_right) := ⟨rfl, rfl, rfl, by decide +kernel, rfl, by decide +kernel, by decide +kernel⟩
abbrev s__law_great_right : Stmt := top 27
theorem sc__law_great_right : FnScope ["bag", "far", "sizes", "pieces", "told", "low", "high", "value", "fall", "pace", "due", "one"] ["bag"] (defScope s__law_great_right) := ⟨rfl, rfl, rfl, by decide +kernel, rfl, by decide +kernel, by decide +kernel⟩
abbrev s_law : Stmt := top 28
theorem sc_law : FnScope ["script", "bag", "turn", "told"] ["script"] (defScope s_law) := ⟨rfl, rfl, rfl, by decide +kernel, rfl, by decide +kernel, by decide +kernel⟩
def fn : List Df := [
  ⟨fun K => He.ga K "is_whole", "is_whole", "is_whole", s_is_whole⟩,
  ⟨fun K => He.ga K "is_whole_list", "is_whole_list", "is_whole_list", s_is_whole_list⟩,
  ⟨fun K => He.ga K "sums_from_zero", "sums_from_zero", "sums_from_zero", s_sums_from_zero⟩,
  ⟨fun K => He.ga K "_check_needs", "_check_needs", "_check_needs", s__check_needs⟩,
  ⟨fun K => He.ga K "_check_numbers", "_check_numbers", "_check_numbers", s__check_numbers⟩,
  ⟨fun K => He.ga K "_buffer_at", "_buffer_at", "_buffer_at", s__buffer_at⟩,
  ⟨fun K => He.ga K "_greatest_sums", "_greatest_sums", "_greatest_sums", s__greatest_sums⟩,
  ⟨fun K => He.ga K "least_buffer", "least_buffer", "least_buffer", s_least_buffer⟩,
  ⟨fun K => He.ga K "buffer_pieces", "buffer_pieces", "buffer_pieces", s_buffer_pieces⟩,
  ⟨fun K => He.ga K "_law_bag", "_law_bag", "_law_bag", s__law_bag⟩,
  ⟨fun K => He.ga K "_law_stirred", "_law_stirred", "_law_stirred", s__law_stirred⟩,
  ⟨fun K => He.ga K "_law_draw", "_law_draw", "_law_draw", s__law_draw⟩,
  ⟨fun K => He.ga K "_law_alike", "_law_alike", "_law_alike", s__law_alike⟩,
  ⟨fun K => He.ga K "_law_needs", "_law_needs", "_law_needs", s__law_needs⟩,
  ⟨fun K => He.ga K "_law_buffer", "_law_buffer", "_law_buffer", s__law_buffer⟩,
  ⟨fun K => He.ga K "_law_by_pieces", "_law_by_pieces", "_law_by_pieces", s__law_by_pieces⟩,
  ⟨fun K => He.ga K "_law_shape_right", "_law_shape_right", "_law_shape_right", s__law_shape_right⟩,
  ⟨fun K => He.ga K "_law_small_right", "_law_small_right", "_law_small_right", s__law_small_right⟩,
  ⟨fun K => He.ga K "_law_great_right", "_law_great_right", "_law_great_right", s__law_great_right⟩,
  ⟨fun K => He.ga K "law", "law", "law", s_law⟩]
def fa : List Fb := [.b (.free "isinstance"),
  .b (.free "bool"),
  .b (.free "int"),
  .b (.glo "is_whole"),
  .b (.free "all"),
  .b (.free "len"),
  .b (.int "MOST_TIMES" 200),
  .b (.free "list"),
  .b (.glo "is_whole_list"),
  .b (.glo "sums_from_zero"),
  .b (.free "min"),
  .b (.glo "_check_needs"),
  .b (.glo "_check_numbers"),
  .b (.free "max"),
  .b (.glo "_buffer_at"),
  .b (.free "range"),
  .b (.free "zip"),
  .b (.glo "_greatest_sums"),
  .b (.glo "least_buffer"),
  .b (.free "enumerate"),
  .b (.glo "buffer_pieces"),
  .b (.free "abs"),
  .b (.glo "_law_bag"),
  .b (.glo "_law_stirred"),
  .b (.glo "_law_draw"),
  .b (.free "str"),
  .b (.free "tuple"),
  .b (.glo "_law_alike"),
  .b (.glo "_law_needs"),
  .b (.glo "_law_buffer"),
  .b (.glo "_law_by_pieces"),
  .b (.free "sorted"),
  .b (.free "set"),
  .b (.glo "_law_shape_right"),
  .b (.free "sum"),
  .b (.glo "_law_small_right"),
  .b (.glo "_law_great_right"),
  .b (.glo "law")]
set_option Elab.async false
set_option linter.all false
set_option maxRecDepth 100000
set_option maxHeartbeats 0
abbrev R : PySem.W.OpenRow := PySem.W.OpenLaw.row PySem.Challenge.rw_evenbits_k51_least_buffers_and_their_pie
abbrev hk : PySem.W.Hook := hookM 6 fa fn
def ob (s : PySem.W.SharedT) : He.AlD := obsMG 6 fa fn (HandSHeadRun.getT s)
theorem ob_eq (s : PySem.W.SharedT) : ob s = hk.obs s.abs := obsMG_eq (HandSHeadRun.getT_eq s)
theorem run (w : World) : HandSHeadRun.RunEq R (PySem.W.view R.prog [28]) hk ob 9000 ["__name__", "MOST_TIMES", "is_whole", "is_whole_list", "sums_from_zero", "EvenError", "InvalidNumber", "InvalidNeeds", "least_buffer", "buffer_pieces", "_check_needs", "_check_numbers", "_buffer_at", "_greatest_sums", "_law_bag", "_law_stirred", "_law_draw", "_law_alike", "_law_needs", "_law_taken", "_law_buffer", "_law_by_pieces", "_law_shape_right", "_law_small_right", "_law_great_right"] w := by
  intro os
  kernel_rfl
set_option Elab.async false
set_option linter.all false
set_option maxRecDepth 100000
set_option maxHeartbeats 4000000
set_option exponentiation.threshold 3000
local macro_rules | `(tactic| walk_at "ev.mem") => `(tactic| focus (repeat (first | exact List.Mem.head _ | refine' List.Mem.tail _ ?_)))
local macro_rules | `(tactic| walk_at "ev.hg") => `(tactic| first | assumption | exact upd_same | (refine' Z.get ?z ?m; (case z => assumption); (case m => walk_at "ev.mem")) | (refine' ZJ.get ?z ?m; (case z => assumption); (case m => walk_at "ev.mem")) | (refine' Z.keep ?z ?h ?n; (case z => assumption); (case h => assumption); (case n => first | (simp; done) | (simp; first | assumption | (apply Ne.symm; assumption)))) | (refine' ZJ.keep ?z ?h ?n; (case z => assumption); (case h => assumption); (case n => first | assumption | (apply Ne.symm; assumption))))
local macro_rules | `(tactic| walk_at "ev.sq") => `(tactic| first | assumption | (apply SqL.of; walk_at "ev.hg"))
local macro_rules | `(tactic| walk_at "ev.st") => `(tactic| first | assumption | (apply SqT.of; walk_at "ev.hg"))
local macro_rules | `(tactic| walk_at "ev.sz") => `(tactic| first | exact Nat.le_of_ble_eq_true rfl | (apply small1000'; simp; done) | (apply small1000'; simp; omega) | (apply small1000'; simp only [List.length_map, List.length_append, List.length_range, List.length_reverse, List.length_cons, List.length_nil, List.length_set]; omega))
local macro_rules | `(tactic| walk_at "ev.szl") => `(tactic| first | exact Nat.le_of_ble_eq_true rfl | (apply smalllt'; simp; done) | (apply smalllt'; simp; omega) | (apply smalllt'; simp only [List.length_map, List.length_append, List.length_range, List.length_reverse, List.length_cons, List.length_nil, List.length_set]; omega))
local macro_rules | `(tactic| walk_at "ev.1") => `(tactic| with_reducible first
  | refine' r_seq ?_ | refine' r_asg ?_ | refine' r_op ?_ | (refine' r_var ?v ?_; (case v => k_dflt exact rfl)) | refine' r_c ?_ | refine' r_name ?_ | refine' r_I0 ?_
  | (refine' r_I ?c ?_; (case c => k_dflt exact pow10 (by decide)))
  | refine' r_cons ?_ | refine' r_nil ?_ | refine' r_call ?_ | refine' r_drop ?_ | refine' r_ret ?_ | refine' r_ifs ?_ | refine' r_test ?_ | refine' r_exif ?_ | refine' r_un ?_ | refine' r_U ?_
  | (refine' r_ixL ?s ?_; (case s => k_dflt walk_at "ev.sq")) | (refine' r_ixT ?s ?_; (case s => k_dflt walk_at "ev.st")) | (refine' r_at ?e ?_; (case e => k_dflt exact rfl)) | (refine' r_ixn ?e ?_; (case e => k_dflt exact rfl)) | (refine' r_ixST (r_ixT ?s ?_); (case s => k_dflt walk_at "ev.st")) | (refine' r_ixSL (r_ixL ?s ?_); (case s => k_dflt walk_at "ev.sq"))
  | refine' r_cb ?_ | refine' r_B ?_ | refine' r_and ?_ | refine' r_or ?_ | refine' r_not ?_ | refine' r_andV ?_ | refine' r_orV ?_ | refine' r_notV ?_ | refine' r_if ?_
  | refine' iteT ?_ | refine' iteF ?_ | refine' iteNT ?_ | refine' iteNF ?_ | refine' r_chain ?_
  | (refine' r_gtup ?s ?e ?_; (case s => k_dflt walk_at "ev.st"); (case e => k_dflt exact rfl)) | refine' r_gcons ?_ | refine' r_gnil ?_ | refine' r_gsub ?_
  | (refine' r_setL ?s ?_; (case s => k_dflt walk_at "ev.hg")) | refine' r_tup ?_ | refine' r_lst ?_
  | refine' r_bm ?_ | (refine' r_tyL ?s ?_; (case s => k_dflt walk_at "ev.hg")) | (refine' r_app ?s ?e ?_; (case s => k_dflt walk_at "ev.hg"); (case e => k_dflt walk_at "ev.szl"))
  | refine' r_sl ?_ | refine' r_part ?_ | refine' r_exint ?_ | refine' r_nopart ?_ | (refine' r_slL ?s ?_; (case s => k_dflt walk_at "ev.sq")) | refine' r_revL ?_ | (refine' r_exrev ?s ?_; (case s => k_dflt walk_at "ev.sq"))
  | (refine' r_eq ?e ?_; (case e => k_dflt exact rfl)) | (refine' r_ne ?e ?_; (case e => k_dflt exact rfl)) | refine' r_par ?_ | refine' r_expar ?_ | refine' r_par3 ?_ | refine' r_expar3 ?_ | refine' r_methK ?_ | refine' r_callKw ?_ | refine' r_ckw ?_ | refine' r_zipL ?_ | refine' r_augS ?_ | refine' r_ipI ?_ | refine' r_ienumS ?_ | (refine' r_sum ?s ?_; (case s => k_dflt walk_at "ev.sq")) | (refine' r_glst ?s ?e ?_; (case s => k_dflt walk_at "ev.sq"); (case e => k_dflt exact rfl))
  | (refine' r_cat ?a ?b ?e ?_; (case a => k_dflt walk_at "ev.hg"); (case b => k_dflt walk_at "ev.hg"); (case e => k_dflt walk_at "ev.sz"))
  | refine' r_for ?_ | refine' r_lc ?_ | refine' r_ilist ?_ | (refine' r_exil ?s ?_; (case s => k_dflt walk_at "ev.sq")) | refine' r_itup ?_ | (refine' r_exit ?s ?_; (case s => k_dflt walk_at "ev.st"))
  | refine' r_irng1 ?_ | refine' r_irng2 ?_ | refine' r_irng3 ?_ | refine' r_izip ?_ | refine' r_izip3 ?_ | refine' r_izip4 ?_ | (refine' r_exz3 ?a ?b ?c ?_; (case a => k_dflt walk_at "ev.sq"); (case b => k_dflt walk_at "ev.sq"); (case c => k_dflt walk_at "ev.sq")) | (refine' r_exz4 ?a ?b ?c ?d ?_; (case a => k_dflt walk_at "ev.sq"); (case b => k_dflt walk_at "ev.sq"); (case c => k_dflt walk_at "ev.sq"); (case d => k_dflt walk_at "ev.sq")) | refine' r_ienum ?_
  | (refine' r_exz ?a ?b ?_; (case a => k_dflt walk_at "ev.sq"); (case b => k_dflt walk_at "ev.sq")) | (refine' r_exen ?a ?_; (case a => k_dflt walk_at "ev.sq"))
  | refine' r_yes ?_ | (refine' r_len ?s ?_; (case s => k_dflt walk_at "ev.sq")) | (refine' r_lenT ?s ?_; (case s => k_dflt walk_at "ev.st")) | refine' r_int1 ?_ | refine' r_int2 ?_ | refine' r_int3 ?_
  | (refine' r_mk ?e ?_; (case e => k_dflt exact Nat.le_of_ble_eq_true rfl))
  | refine' r_chain3 ?_ | refine' r_tru ?_ | (refine' r_truL ?s ?_; (case s => k_dflt walk_at "ev.sq")) | refine' r_bm0 ?_ | refine' r_star ?_ | (refine' r_exstarT ?s ?_; (case s => k_dflt walk_at "ev.st")) | (refine' r_aug ?s ?_; (case s => k_dflt exact rfl)) | refine' r_break ?_ | refine' r_cont ?_ | refine' r_gsl ?_
  | refine' r_make ?_ | refine' r_meth ?_ | refine' r_prop ?_ | refine' r_fld ?_ | refine' r_sfld ?_ | refine' r_next ?_)
local macro_rules | `(tactic| walk_at "ev") => `(tactic| repeat walk_at "ev.1")
local macro_rules | `(tactic| walk_at "ev0") => `(tactic| (dsimp only [cxOf, Cx.nox]; walk_at "ev"))
section
variable {P : Program} {w : World} {K : PySem.W.Frag} {mg : Str → Option Value} {base : Heap}
theorem abs_ltB {x : Int} {n : Nat} (h0 : 0 ≤ x) (h : x < 2 ^ n) : x.natAbs < 2 ^ n := by
  have e : ((2 ^ n : Nat) : Int) = (2 : Int) ^ n := by simp
  omega
theorem Fr.at1 {H H' : Hp} {j : Addr} {o : HO} (f : Fr [j] H H') : Fr [j] H (upd H' j o) := fun x u hx e => by
  rw [upd_ne (fun z => hx (by rw [z]; exact List.mem_cons_self))]
  exact f x u hx e
def sp__law_stirred (K : PySem.W.Frag) : Sp := fun vs H Q _ => ∃ (ls j : Addr) (m : Int) (n : Nat), vs = [.ref j, .int m] ∧ JarAt ls H j (n + 1) ∧ 0 < m ∧ m < 2 ^ 1000 ∧ ∀ v H', 0 ≤ v → v < m → Fr [j] H H' → JarAt ls H' j n → Q (.int v) H'
theorem k__law_stirred (T : Tx fa fn K mg base) : Fk P w K mg base "_law_stirred" ["bag", "wide"] 1 (sp__law_stirred K) s__law_stirred "_law_stirred" := by
  refine T.fk 10 23 (q := "_law_stirred") (st := s__law_stirred) sc__law_stirred (fun _ _ _ _ _ _ us hl => match us, hl with | [_, _], _ => rfl) (fun vs H Q E h => ?_) (fun cdv A outer s H vs Q E hr h => ?_)
  · obtain ⟨ls, j, m, n, rfl, _⟩ := h
    rfl
  · obtain ⟨ls, j, m, n, rfl, ⟨ns, i, b, c, d, hj, hls, nj, hi, jb⟩, m0, m1, k⟩ := h
    have wm := abs_ltB (Int.le_of_lt m0) m1
    refine ⟨_, (pss_cons (ps_set (i := 2) sc__law_stirred.nd rfl (by first | exact Or.inl rfl | exact Or.inr rfl) pe_int)
      (pss_cons (ps_for PassesOwn.never rfl (pi_range1 (by rfl) (T.fr 15) (pa_cons (pe_op op_add pe_int (pe_op op_fdivW (pe_bits (pv 1)) pe_int)) pa_nil)) (pg_name (i := 3) sc__law_stirred.nd rfl (by first | exact Or.inl rfl | exact Or.inr rfl)) (pss_cons (ps_asg (pe_op op_add (pe_ix ix_list (pv 0) pe_int (fun _ _ => rfl)) pe_int) (pg_sub (pv 0) pe_int set_list))
      (pss_cons (ps_set (i := 4) sc__law_stirred.nd rfl (by first | exact Or.inl rfl | exact Or.inr rfl) (pe_op op_add (pe_op op_add (pe_op op_add (pe_op op_powW (pe_ix ix_list (pv 0) pe_int (fun _ _ => rfl)) pe_int) (pe_op op_mulW pe_int (pe_ix ix_list (pv 0) pe_int (fun _ _ => rfl)))) (pe_op op_mulW pe_int (pe_ix ix_list (pv 0) pe_int (fun _ _ => rfl)))) pe_int))
      (pss_cons (ps_asg (pe_op op_mod (pe_callTy call_int1 (by rfl) (T.fr 2) (by decide +kernel) (pa_cons (pv 4) pa_nil)) pe_int) (pg_sub (pv 0) pe_int set_list))
      (pss_one (ps_set (i := 2) sc__law_stirred.nd rfl (by first | exact Or.inl rfl | exact Or.inr rfl) (pe_op op_add (pe_op op_mulW (pv 2) pe_int) (pe_op op_fdivW (pe_ix ix_list (pv 0) pe_int (fun _ _ => rfl)) pe_int))))))))
      (pss_one (ps_ret (pe_op op_mod (pe_callTy call_int1 (by rfl) (T.fr 2) (by decide +kernel) (pa_cons (pv 2) pa_nil)) (pv 1)))))), ?_⟩
    walk_at "ev0"
    have bits : (Builtin.Int.intBits m : Nat) ≤ 1000 := PyProof.Rows.intBits_le wm
    refine ⟨.int m, rfl, m, rfl, ?_⟩
    generalize Builtin.Int.intBits m = B at bits ⊢
    walk_at "ev"
    refine r_I (wide_div (b := 40) (by decide) (by decide) (by decide) (by decide)) ?_
    have dB : 0 ≤ (B : Int) / 27 ∧ (B : Int) / 27 ≤ 37 := ⟨by omega, by omega⟩
    generalize (B : Int) / 27 = D at dB ⊢
    walk_at "ev"
    refine ⟨by omega, by omega, ?_⟩
    have p31 : (2 : Int) ^ 31 = 2147483648 := by decide
    have jc := jb.c1
    have jc0 := jb.c0
    have jd := jb.d0
    have jd1 := jb.d1
    refine for_it (walk_range (lo := 0)) (fun k σ H' => ∃ (fo c' d' : Int) (u3 u4 : Option V), σ = [some (.ref j), some (.int m), some (.int fo), u3, u4] ∧ Fr [j] H H' ∧ H' j = some (BagO ls i b c' d') ∧ (0 ≤ c' ∧ c' < 2147483648) ∧ (0 ≤ d' ∧ d' ≤ d + (k : Int)) ∧ 0 ≤ fo ∧ fo < (2 : Int) ^ (28 * k + 1)) ⟨0, c, d, none, none, rfl, Fr.refl _, hj, ⟨jc0, by omega⟩, ⟨jd, by omega⟩, by decide, by decide⟩ (fun _ _ _ _ _ => trivial) (fun q x σ H1 H1' hq p y => ?_) (fun σ H1 p => ?_)
    · obtain ⟨fo, c', d', u3, u4, rfl, f1, hj1, hc, hd, f0, flt⟩ := p
      obtain ⟨rfl, rfl⟩ := y
      have hq' : q < 38 := by omega
      have pw : (2 : Int) ^ (28 * (q + 1) + 1) = (2 : Int) ^ (28 * q + 1) * 268435456 := by
        rw [show 28 * (q + 1) + 1 = 28 * q + 1 + 28 by omega, Int.pow_add]
        rfl
      have fb : fo.natAbs < 2 ^ 1100 := by
        have e : (2 : Int) ^ (28 * q + 1) ≤ 2 ^ 1100 := (show ∀ q, q < 38 → (2 : Int) ^ (28 * q + 1) ≤ 2 ^ 1100 by decide +kernel) q hq'
        exact abs_ltB f0 (by omega)
      walk_at "ev"
      refine r_I (powW (b := 40) (by decide) (by decide) (natAbs_lt (by omega) (by omega)) (by decide) (by decide)) ?_
      walk_at "ev"
      refine r_I (wide_mul (a := 30) (b := 40) (by decide) (natAbs_lt (by omega) (by omega)) (by decide) (by decide) (by decide)) ?_
      walk_at "ev"
      refine r_I (wide_mul (a := 30) (b := 40) (by decide) (natAbs_lt (by omega) (by omega)) (by decide) (by decide) (by decide)) ?_
      walk_at "ev"
      refine r_I (by decide) ?_
      generalize hx : (c' ^ Int.toNat 3 + 69621 * c' + 1031 * (d' + 1) + 1) % 2147483647 = x
      have x0 : 0 ≤ x := by
        rw [← hx]
        exact Int.emod_nonneg _ (by decide)
      have x1 : x < 2147483647 := by
        rw [← hx]
        exact Int.emod_lt_of_pos _ (by decide)
      walk_at "ev"
      refine r_I (wide_mul (a := 1100) (b := 30) fb (by decide) (by decide) (by decide) (by decide)) ?_
      walk_at "ev"
      refine r_I (wide_div (b := 40) (by decide) (by decide) (by decide) (by decide)) ?_
      have xd : 0 ≤ x / 16 ∧ x / 16 < 134217728 := ⟨by omega, by omega⟩
      generalize x / 16 = y at xd ⊢
      walk_at "ev"
      exact ⟨_, _, _, _, _, rfl, f1.at1.at1, upd_same, ⟨x0, by omega⟩, ⟨by omega, by omega⟩, by omega, by rw [pw]; omega⟩
    obtain ⟨fo, c', d', u3, u4, rfl, f1, hj1, hc, hd, f0, flt⟩ := p
    walk_at "ev"
    refine r_I m0 ?_
    exact k _ _ (Int.emod_nonneg _ (by omega)) (Int.emod_lt_of_pos _ m0) f1 ⟨ns, i, b, c', d', hj1, f1 _ _ (by simpa using nj) hls, nj, hi, jb.len, jb.all, jb.b0, hc.1, by omega, hd.1, by omega⟩
def sp__law_draw (K : PySem.W.Frag) : Sp := fun vs H Q _ => ∃ (ls j : Addr) (m : Int) (n : Nat), vs = [.ref j, .int m] ∧ JarAt ls H j (n + 1) ∧ 0 < m ∧ m < 2 ^ 1000 ∧ ∀ v H', 0 ≤ v → v < m → Fr [j] H H' → JarAt ls H' j n → Q (.int v) H'
theorem k__law_draw (T : Tx fa fn K mg base) : Fk P w K mg base "_law_draw" ["bag", "wide"] 2 (sp__law_draw K) s__law_draw "_law_draw" := by
  refine T.fk 11 24 (q := "_law_draw") (st := s__law_draw) sc__law_draw (fun _ _ _ _ _ _ us hl => match us, hl with | [_, _], _ => rfl) (fun vs H Q E h => ?_) (fun cdv A outer s H vs Q E hr h => ?_)
  · obtain ⟨ls, j, m, n, rfl, _⟩ := h
    rfl
  · obtain ⟨ls, j, m, n, rfl, ⟨ns, i, b, c, d, hj, hls, nj, hi, jb⟩, m0, m1, k⟩ := h
    have wm := abs_ltB (Int.le_of_lt m0) m1
    have hln : (ns.map V.int).length = ns.length := List.length_map _
    have jc := jb.c1
    have jc0 := jb.c0
    have jd := jb.d0
    have jd1 := jb.d1
    have b0 := jb.b0
    refine ⟨_, (pss_cons (ps_if (PW.pt (pw_and (pt_cmpR op_eq (pe_ix ix_list (pv 0) pe_int (fun _ _ => rfl)) pe_int (nomark _)) (pw_and1 (pt_cmpR op_lt (pe_ix ix_list (pv 0) pe_int (fun _ _ => rfl)) (pe_callB call_len_seq (by rfl) (T.fr 5) (by decide +kernel) (pa_cons (pe_ix ix_list (pv 0) pe_int (fun _ _ => rfl)) pa_nil)) (nomark _))))) (pss_cons (ps_asg (pe_ix ix_list (pe_ix ix_list (pv 0) pe_int (fun _ _ => rfl)) (pe_ix ix_list (pv 0) pe_int (fun _ _ => rfl)) (fun _ _ => rfl)) (pg_sub (pv 0) pe_int set_list))
      (pss_one (ps_asg (pe_op op_add (pe_ix ix_list (pv 0) pe_int (fun _ _ => rfl)) pe_int) (pg_sub (pv 0) pe_int set_list)))) (pss_one (ps_if (pt_cmpR op_eq (pe_ix ix_list (pv 0) pe_int (fun _ _ => rfl)) pe_int (nomark _)) (pss_one (ps_ret (pe_f (k__law_stirred T) hr (pa_cons (pv 0) (pa_cons (pv 1) pa_nil))))) pss_nil)))
      (pss_cons (ps_set (i := 2) sc__law_draw.nd rfl (by first | exact Or.inl rfl | exact Or.inr rfl) (pe_op op_mod (pe_callTy call_int1 (by rfl) (T.fr 2) (by decide +kernel) (pa_cons (pe_ix ix_list (pv 0) pe_int (fun _ _ => rfl)) pa_nil)) (pv 1)))
      (pss_cons (ps_asg (pe_op op_fdivW (pe_ix ix_list (pv 0) pe_int (fun _ _ => rfl)) (pv 1)) (pg_sub (pv 0) pe_int set_list))
      (pss_one (ps_ret (pv 2)))))), ?_⟩
    walk_at "ev0"
    have ends : ∀ (b' : Int) (i' : Nat) (Hx : Hp), 0 ≤ b' → i' ≤ ns.length → Fr [j] H Hx → Hx j = some (BagO ls i' (b' / m) c d) → Q (.int (b' % m)) Hx := fun b' i' Hx hb' hi' fx ex =>
      k _ _ (Int.emod_nonneg _ (by omega)) (Int.emod_lt_of_pos _ m0) fx ⟨ns, i', b' / m, c, d, ex, fx _ _ (by simpa using nj) hls, nj, hi', jb.len, jb.all, Int.ediv_nonneg hb' (by omega), jc0, jc, jd, by omega⟩
    have stir : b = 0 → sp__law_stirred K [V.ref j, V.int m] H Q E0 := fun _ => ⟨ls, j, m, n, rfl, ⟨ns, i, b, c, d, hj, hls, nj, hi, jb⟩, m0, m1, k⟩
    refine r_ite (fun h0 => ?_) (fun h0 => ?_)
    · have hb0 : b = 0 := by injection h0
      walk_at "ev"
      refine r_ite (fun h1 => ?_) (fun h1 => ?_)
      · have lt : i < ns.length := by omega
        have v0 := jb.all _ (nth_mem lt)
        walk_at "ev"
        refine r_at (atI_nat (at_nth lt)) ?_
        generalize nth ns i = v at v0 ⊢
        walk_at "ev"
        refine r_I m0 ?_
        walk_at "ev"
        refine r_I (wide_div m0 wm (by decide) (by decide)) ?_
        walk_at "ev"
        exact ends v (i + 1) _ v0 lt (Fr.refl H).at1.at1.at1 upd_same
      · walk_at "ev"
        rw [decide_eq_true (show V.int b = V.int 0 by rw [hb0])]
        walk_at "ev"
        exact stir hb0
    · walk_at "ev"
      rw [decide_eq_false h0]
      walk_at "ev"
      refine r_I m0 ?_
      walk_at "ev"
      refine r_I (wide_div m0 wm (by decide) (by decide)) ?_
      walk_at "ev"
      exact ends b i _ b0 hi (Fr.refl H).at1 upd_same
theorem cut_63 {ns : List Int} (h : ns.length ≤ 63) : cutV (ns.map V.int) none (some 63) = ns.map V.int := by
  show cutV (ns.map V.int) none (some ((63 : Nat) : Int)) = _
  unfold cutV
  rw [HT.sIx_nat, HT.sIx_none, List.drop_zero, List.length_map, Nat.min_eq_right h]
  exact List.take_of_length_le (by rw [List.length_map]; omega)
def sp__law_bag (K : PySem.W.Frag) : Sp := fun vs H Q _ => ∃ (a : Addr) (ns : List Int), vs = [.ref a] ∧ SqL K H a (ns.map V.int) ∧ ns.length ≤ 63 ∧ ∀ ls p H', H p = none → Fr [] H H' → JarAt ls H' p 999000 → Q (.ref p) H'
theorem k__law_bag (T : Tx fa fn K mg base) : Fk P w K mg base "_law_bag" ["script"] 1 (sp__law_bag K) s__law_bag "_law_bag" := by
  refine T.fk 9 22 (q := "_law_bag") (st := s__law_bag) sc__law_bag (fun _ _ _ _ _ _ us hl => match us, hl with | [_], _ => rfl) (fun vs H Q E h => ?_) (fun cdv A outer s H vs Q E hr h => ?_)
  · obtain ⟨a, ns, rfl, _⟩ := h
    rfl
  · obtain ⟨a, ns, rfl, ha, hn, k⟩ := h
    have hln : (ns.map V.int).length = ns.length := List.length_map _
    refine ⟨_, (pss_cons (ps_set (i := 1) sc__law_bag.nd rfl (by first | exact Or.inl rfl | exact Or.inr rfl) pe_int)
      (pss_cons (ps_for PassesOwn.never rfl (pi_list (pe_slice sl_list (pv 0) po_none (po_some pe_int))) (pg_name (i := 2) sc__law_bag.nd rfl (by first | exact Or.inl rfl | exact Or.inr rfl)) (pss_one (ps_set (i := 1) sc__law_bag.nd rfl (by first | exact Or.inl rfl | exact Or.inr rfl) (pe_op op_mod (pe_callTy call_int1 (by rfl) (T.fr 2) (by decide +kernel) (pa_cons (pe_op op_add (pe_op op_add (pe_op op_mulW (pv 1) pe_int) (pe_op op_mod (pe_callTy call_int1 (by rfl) (T.fr 2) (by decide +kernel) (pa_cons (pv 2) pa_nil)) pe_int)) pe_int) pa_nil)) pe_int))))
      (pss_one (ps_ret (pe_lst (pa_cons (pe_lc (own := [("cell", 2)]) (tt := tYes) (te := (tOp (rI (fun _ j => 0 < j) fun i j => .int (i % j)) (tCB (fun xs H Q => (∃ i : Int, xs = [.int i] ∧ Q (.int i) H) ∨ ∃ k : Bool, xs = [.bl k] ∧ Q (.int (if k then 1 else 0)) H) (tCons (tCB (fun xs H Q => ∃ i : Int, xs = [.int i] ∧ Q (.int (if i < 0 then -i else i)) H) (tCons (tVar 2) tNil)) tNil)) (tOp (rI CPowW fun i j => .int (i ^ j.toNat)) (tOp (rI CPowW fun i j => .int (i ^ j.toNat)) (tC (.int 10)) (tC (.int 60))) (tC (.int 10))))) rfl sc__law_bag.nd (pi_list (pe_slice sl_list (pv 0) po_none (po_some pe_int))) (blkOk_by (N := ["script", "stir", "cell"]) (sc := defScope s__law_bag) (by decide +kernel)) (fun _ _ _ _ _ => (pg_name (i := 2) sc__law_bag.nd rfl (by first | exact Or.inl rfl | exact Or.inr rfl))) (fun _ _ _ _ _ => pts_nil) (fun _ _ _ _ _ => (pe_op op_mod (pe_callTy call_int1 (by rfl) (T.fr 2) (by decide +kernel) (pa_cons (pe_callB call_abs (by rfl) (T.fr 21) (by decide +kernel) (pa_cons (pv 2) pa_nil)) pa_nil)) (pe_op op_powW (pe_op op_powW pe_int pe_int) pe_int)))) (pa_cons pe_int (pa_cons pe_int (pa_cons (pv 1) (pa_cons pe_int pa_nil)))))))))), ?_⟩
    walk_at "ev0"
    rw [cut_63 hn]
    intro s1 k1
    have z1 := (Z.start0 H).alloc (.lst (ns.map V.int)) k1
    have g1 := z1.get (.head _)
    have ha1 := z1.fr0 (by simp)
    refine ⟨s1, rfl, ⟨_, SqL.of g1⟩, ?_⟩
    refine for_it (walk_list (xs := ns.map V.int)) (fun i σ H' => ∃ (st : Int) (u2 : Option V), σ = [some (.ref a), some (.int st), u2] ∧ H' = upd H s1 (.lst (ns.map V.int)) ∧ 0 ≤ st ∧ st < 2147483648) ⟨141, none, rfl, rfl, by decide, by decide⟩ (fun i σ H' _ pv => ?_) (fun i x σ H1 H1' hi pv y => ?_) (fun σ H1 pv => ?_)
    · obtain ⟨_, _, _, rfl, _⟩ := pv
      exact SqL.of g1
    · obtain ⟨st, u2, rfl, rfl, s0, s9⟩ := pv
      obtain ⟨rfl, hx⟩ := y
      obtain rfl := nth_at hx
      generalize nth ns i = x at *
      walk_at "ev"
      refine r_I (wide_mul (a := 40) (b := 30) (natAbs_lt (by omega) (by omega)) (by decide) (by decide) (by decide) (by decide)) ?_
      walk_at "ev"
      refine r_I (by decide) ?_
      walk_at "ev"
      refine r_I (by decide) ?_
      walk_at "ev"
      refine ⟨_, _, rfl, rfl, Int.emod_nonneg _ (by decide), Int.lt_trans (Int.emod_lt_of_pos _ (by decide)) (by decide)⟩
    obtain ⟨st, u2, rfl, rfl, s0, s9⟩ := pv
    have ha2 := ha1.sql ha (fun z => nomatch z)
    walk_at "ev"
    rw [cut_63 hn]
    intro s2 k2
    have z2 := z1.alloc (.lst (ns.map V.int)) k2
    have g2 := z2.get (.head _)
    walk_at "ev"
    refine lc_map (ns := ns) (fun x => (if x < 0 then -x else x) % ((10 : Int) ^ Int.toNat 60) ^ Int.toNat 10) (SqL.of g2) (by omega) (fun _ => rfl) (fun i H' R hi e kR => ?_) (fun D H1 hD e hD' => ?_)
    · have p60 : CPowW (10 ^ Int.toNat 60) 10 := powW (b := 200) (by decide) (by decide) (by decide +kernel) (by decide) (by decide)
      have p0 : (0 : Int) < ((10 : Int) ^ Int.toNat 60) ^ Int.toNat 10 := by decide +kernel
      walk_at "ev"
      refine r_I p60 ?_
      walk_at "ev"
      refine r_I p0 ?_
      walk_at "ev"
      exact kR _ (Fr.refl _)
    have z3 := z2.comp e hD hD'
    walk_at "ev"
    intro p hp
    have p0 : (0 : Int) < ((10 : Int) ^ Int.toNat 60) ^ Int.toNat 10 := by decide +kernel
    have z4 := z3.alloc (BagO D 0 0 st 0) hp
    refine k D p _ (z3.none hp) (z4.fr0 (by simp)) ⟨ns.map fun x => (if x < 0 then -x else x) % ((10 : Int) ^ Int.toNat 60) ^ Int.toNat 10, 0, 0, st, 0, upd_same, z4.get (.tail _ (.head _)), ?_, Nat.zero_le _, by rw [List.length_map]; exact hn, fun x hx => ?_, by decide, s0, by omega, by decide, by decide⟩
    · exact z4.ne 0 1 rfl rfl (by decide)
    · obtain ⟨y, _, rfl⟩ := List.mem_map.mp hx
      exact Int.emod_nonneg _ (by omega)
end
set_option Elab.async false
set_option linter.all false
set_option maxRecDepth 100000
set_option maxHeartbeats 4000000
local macro_rules | `(tactic| walk_at "ev.1") => `(tactic| with_reducible first
  | refine' r_seq ?_ | refine' r_asg ?_ | refine' r_op ?_ | (refine' r_var ?v ?_; (case v => k_dflt exact rfl)) | refine' r_c ?_ | refine' r_name ?_ | refine' r_I0 ?_
  | (refine' r_I ?c ?_; (case c => k_dflt exact pow10 (by decide)))
  | refine' r_cons ?_ | refine' r_nil ?_ | refine' r_call ?_ | refine' r_drop ?_ | refine' r_ret ?_ | refine' r_ifs ?_ | refine' r_test ?_ | refine' r_exif ?_ | refine' r_un ?_ | refine' r_U ?_
  | (refine' r_ixL ?s ?_; (case s => k_dflt walk_at "ev.sq")) | (refine' r_ixT ?s ?_; (case s => k_dflt walk_at "ev.st")) | (refine' r_at ?e ?_; (case e => k_dflt exact rfl)) | (refine' r_ixn ?e ?_; (case e => k_dflt exact rfl)) | (refine' r_ixST (r_ixT ?s ?_); (case s => k_dflt walk_at "ev.st")) | (refine' r_ixSL (r_ixL ?s ?_); (case s => k_dflt walk_at "ev.sq"))
  | refine' r_cb ?_ | refine' r_B ?_ | refine' r_and ?_ | refine' r_or ?_ | refine' r_not ?_ | refine' r_andV ?_ | refine' r_orV ?_ | refine' r_notV ?_ | refine' r_if ?_
  | refine' iteT ?_ | refine' iteF ?_ | refine' iteNT ?_ | refine' iteNF ?_ | refine' r_chain ?_
  | (refine' r_gtup ?s ?e ?_; (case s => k_dflt walk_at "ev.st"); (case e => k_dflt exact rfl)) | refine' r_gcons ?_ | refine' r_gnil ?_ | refine' r_gsub ?_
  | (refine' r_setL ?s ?_; (case s => k_dflt walk_at "ev.hg")) | refine' r_tup ?_ | refine' r_lst ?_
  | refine' r_bm ?_ | (refine' r_tyL ?s ?_; (case s => k_dflt walk_at "ev.hg")) | (refine' r_app ?s ?e ?_; (case s => k_dflt walk_at "ev.hg"); (case e => k_dflt walk_at "ev.szl"))
  | refine' r_sl ?_ | refine' r_part ?_ | refine' r_exint ?_ | refine' r_nopart ?_ | (refine' r_slL ?s ?_; (case s => k_dflt walk_at "ev.sq")) | refine' r_revL ?_ | (refine' r_exrev ?s ?_; (case s => k_dflt walk_at "ev.sq"))
  | (refine' r_eq ?e ?_; (case e => k_dflt exact rfl)) | (refine' r_ne ?e ?_; (case e => k_dflt exact rfl)) | refine' r_par ?_ | refine' r_expar ?_ | refine' r_par3 ?_ | refine' r_expar3 ?_ | refine' r_methK ?_ | refine' r_callKw ?_ | refine' r_ckw ?_ | refine' r_zipL ?_ | refine' r_augS ?_ | refine' r_ipI ?_ | refine' r_ienumS ?_ | (refine' r_sum ?s ?_; (case s => k_dflt walk_at "ev.sq")) | (refine' r_glst ?s ?e ?_; (case s => k_dflt walk_at "ev.sq"); (case e => k_dflt exact rfl))
  | (refine' r_cat ?a ?b ?e ?_; (case a => k_dflt walk_at "ev.hg"); (case b => k_dflt walk_at "ev.hg"); (case e => k_dflt walk_at "ev.sz"))
  | refine' r_for ?_ | refine' r_lc ?_ | refine' r_ilist ?_ | (refine' r_exil ?s ?_; (case s => k_dflt walk_at "ev.sq")) | refine' r_itup ?_ | (refine' r_exit ?s ?_; (case s => k_dflt walk_at "ev.st"))
  | refine' r_irng1 ?_ | refine' r_irng2 ?_ | refine' r_irng3 ?_ | refine' r_izip ?_ | refine' r_izip3 ?_ | refine' r_izip4 ?_ | (refine' r_exz3 ?a ?b ?c ?_; (case a => k_dflt walk_at "ev.sq"); (case b => k_dflt walk_at "ev.sq"); (case c => k_dflt walk_at "ev.sq")) | (refine' r_exz4 ?a ?b ?c ?d ?_; (case a => k_dflt walk_at "ev.sq"); (case b => k_dflt walk_at "ev.sq"); (case c => k_dflt walk_at "ev.sq"); (case d => k_dflt walk_at "ev.sq")) | refine' r_ienum ?_
  | (refine' r_exz ?a ?b ?_; (case a => k_dflt walk_at "ev.sq"); (case b => k_dflt walk_at "ev.sq")) | (refine' r_exen ?a ?_; (case a => k_dflt walk_at "ev.sq"))
  | refine' r_yes ?_ | (refine' r_len ?s ?_; (case s => k_dflt walk_at "ev.sq")) | (refine' r_lenT ?s ?_; (case s => k_dflt walk_at "ev.st")) | refine' r_int1 ?_ | refine' r_int2 ?_ | refine' r_int3 ?_
  | (refine' r_mk ?e ?_; (case e => k_dflt exact Nat.le_of_ble_eq_true rfl))
  | refine' r_tru ?_ | (refine' r_truL ?s ?_; (case s => k_dflt walk_at "ev.sq")) | refine' r_bm0 ?_ | refine' r_star ?_ | (refine' r_exstarT ?s ?_; (case s => k_dflt walk_at "ev.st")) | (refine' r_aug ?s ?_; (case s => k_dflt exact rfl)) | refine' r_break ?_ | refine' r_cont ?_ | refine' r_gsl ?_
  | refine' r_make ?_ | refine' r_meth ?_ | refine' r_prop ?_ | refine' r_fld ?_ | refine' r_sfld ?_ | refine' r_next ?_)
section
variable {P : Program} {w : World} {K : PySem.W.Frag} {mg : Str → Option Value} {base : Heap}
def sp_is_whole (K : PySem.W.Frag) : Sp := fun vs H Q _ => ∃ v t b1 b2, vs = [v] ∧ TyX K H v t ∧ PySem.W.kitOne K t (.type "int") = some b1 ∧ PySem.W.kitOne K t (.type "bool") = some b2 ∧ Q (.bl (b1 && !b2)) H
theorem k_is_whole (T : Tx fa fn K mg base) : Fk P w K mg base "is_whole" ["thing"] 1 (sp_is_whole K) s_is_whole "is_whole" := by
  refine T.fk 0 3 (q := "is_whole") (st := s_is_whole) sc_is_whole (fun _ _ _ _ _ _ us hl => match us, hl with | [_], _ => rfl) (fun vs H Q E h => ?_) (fun cdv A outer s H vs Q E hr h => ?_)
  · obtain ⟨v, t, b1, b2, rfl, _⟩ := h
    rfl
  · obtain ⟨v, t, b1, b2, rfl, ty, h1, h2, k⟩ := h
    refine ⟨_, (pss_one (ps_ret (pe_and (pe_callB call_isi (by rfl) (T.fr 0) (by decide +kernel) (pa_cons (pv 0) (pa_cons (pe_bltn (v := .ty "int") (u := .type "int") (by rfl) (T.fr 2) (by decide +kernel) rfl) pa_nil))) (pe_one (pe_not (pe_callB call_isi (by rfl) (T.fr 0) (by decide +kernel) (pa_cons (pv 0) (pa_cons (pe_bltn (v := .ty "bool") (u := .type "bool") (by rfl) (T.fr 1) (by decide +kernel) rfl) pa_nil)))))))), ?_⟩
    walk_at "ev0"
    refine r_isi (.ty _) ty h1 ?_
    walk_at "ev"
    cases b1 with
    | false => exact iteF k
    | true =>
      refine iteT ?_
      walk_at "ev"
      refine r_isi (.ty _) ty h2 ?_
      walk_at "ev"
      exact k
theorem whole_int {K : PySem.W.Frag} {H : Hp} {Q : VK} {i : Int} (k : Q (.bl true) H) : sp_is_whole K ([V.int i] ++ []) H Q E0 :=
  ⟨_, _, true, false, rfl, .base (.int i), kit_ty (by decide +kernel), kit_ty (by decide +kernel), k⟩
def sp_is_whole_list (K : PySem.W.Frag) : Sp := fun vs H Q _ => ∃ (a : Addr) (ns : List Int), vs = [.ref a] ∧ H a = some (.lst (ns.map V.int)) ∧ (1 ≤ ns.length ∧ ns.length ≤ 200) ∧ ∀ H', Fr [] H H' → Q (.bl true) H'
theorem k_is_whole_list (T : Tx fa fn K mg base) : Fk P w K mg base "is_whole_list" ["thing"] 2 (sp_is_whole_list K) s_is_whole_list "is_whole_list" := by
  refine T.fk 1 8 (q := "is_whole_list") (st := s_is_whole_list) sc_is_whole_list (fun _ _ _ _ _ _ us hl => match us, hl with | [_], _ => rfl) (fun vs H Q E h => ?_) (fun cdv A outer s H vs Q E hr h => ?_)
  · obtain ⟨a, ns, rfl, _⟩ := h
    rfl
  · obtain ⟨a, ns, rfl, ha, hn, k⟩ := h
    have hl : (ns.map V.int).length = ns.length := List.length_map _
    refine ⟨_, (pss_cons (ps_if (PW.pt (pw_or (pt_not (pt_val (pe_callB call_isi (by rfl) (T.fr 0) (by decide +kernel) (pa_cons (pv 0) (pa_cons (pe_bltn (v := .ty "list") (u := .type "list") (by rfl) (T.fr 7) (by decide +kernel) rfl) pa_nil))))) (pw_or1 (pt_not (pt_chain op_le op_le pe_int (pe_callB call_len_seq (by rfl) (T.fr 5) (by decide +kernel) (pa_cons (pv 0) pa_nil)) (pe_globI (T.int 6))))))) (pss_one (ps_ret pe_bl)) pss_nil)
      (pss_one (ps_ret (pe_callB (cr_all rfl) (by rfl) (T.fr 4) (by decide +kernel) (pa_cons (pe_lc (own := [("entry", 1)]) (tt := tYes) (te := (tCall (sp_is_whole K) [] E0 (tCons (tVar 1) tNil))) rfl sc_is_whole_list.nd (pi_list (pv 0)) (blkOk_by (N := ["thing", "entry"]) (sc := defScope s_is_whole_list) (by decide +kernel)) (fun _ _ _ _ _ => (pg_name (i := 1) sc_is_whole_list.nd rfl (by first | exact Or.inl rfl | exact Or.inr rfl))) (fun _ _ _ _ _ => pts_nil) (fun _ _ _ _ _ => (pe_f (k_is_whole T) hr (pa_cons (pv 1) pa_nil)))) pa_nil))))), ?_⟩
    walk_at "ev0"
    refine r_isi (.ty _) (.base (.lst ha)) (kit_ty (b := "list") (r := true) (by decide +kernel)) ?_
    walk_at "ev"
    refine r_iteY (by omega) ?_
    walk_at "ev"
    refine r_iteNY (by omega) ?_
    walk_at "ev"
    refine lc_pure (walk_list (xs := ns.map V.int)) (fun _ => .bl true) (by omega) (fun H' e => e.sql (SqL.of ha) (fun z => nomatch z)) (fun i H' x H'' y => by rw [y.1]; exact Fr.refl _) (fun i x H' H'' R hi e y kR => ?_) (fun D H' hD e hD' => ?_)
    · obtain ⟨rfl, hx⟩ := y
      rw [nth_at hx]
      walk_at "ev"
      refine ⟨rfl, ?_⟩
      walk_at "ev"
      exact whole_int (kR _ (Fr.refl _))
    · walk_at "ev"
      refine r_all (bs := (List.range (ns.map V.int).length).map fun _ => true) (SqL.of (by rw [List.map_map]; exact hD')) ?_
      have e2 : ((List.range (ns.map V.int).length).map fun _ => true).all id = true := by simp
      rw [e2]
      exact k H' e
end
set_option Elab.async false
set_option linter.all false
set_option maxRecDepth 100000
set_option maxHeartbeats 4000000
section
variable {P : Program} {w : World} {K : PySem.W.Frag} {mg : Str → Option Value} {base : Heap}
def sp_sums_from_zero (K : PySem.W.Frag) : Sp := fun vs H Q _ => ∃ (a : Addr) (ns : List Int), vs = [.ref a] ∧ H a = some (.lst (ns.map V.int)) ∧ ns.length ≤ 10000 ∧ ∀ p H', H p = none → Fr [] H H' → H' p = some (.lst ((sums0 ns).map V.int)) → Q (.ref p) H'
theorem k_sums_from_zero (T : Tx fa fn K mg base) : Fk P w K mg base "sums_from_zero" ["row"] 1 (sp_sums_from_zero K) s_sums_from_zero "sums_from_zero" := by
  refine T.fk 2 9 (q := "sums_from_zero") (st := s_sums_from_zero) sc_sums_from_zero (fun _ _ _ _ _ _ us hl => match us, hl with | [_], _ => rfl) (fun vs H Q E h => ?_) (fun cdv A outer s H vs Q E hr h => ?_)
  · obtain ⟨a, ns, rfl, _⟩ := h
    rfl
  · obtain ⟨a, ns, rfl, ha, hn, k⟩ := h
    have hl : (ns.map V.int).length = ns.length := List.length_map _
    refine ⟨_, (pss_cons (ps_set (i := 1) sc_sums_from_zero.nd rfl (by first | exact Or.inl rfl | exact Or.inr rfl) (pe_lst (pa_cons pe_int pa_nil)))
      (pss_cons (ps_for PassesOwn.never rfl (pi_list (pv 0)) (pg_name (i := 2) sc_sums_from_zero.nd rfl (by first | exact Or.inl rfl | exact Or.inr rfl)) (pss_one (ps_expr (pe_bm PySem.F.plainAttrs_list PySem.F.slot_list_append PySem.F.type_list_append mt_append (pv 1) (pa_cons (pe_op op_add (pe_ix ix_list (pv 1) (pe_un un_neg pe_int) (fun _ _ => rfl)) (pv 2)) pa_nil)))))
      (pss_one (ps_ret (pv 1))))), ?_⟩
    walk_at "ev0"
    intro p k1
    have z1 := (Z.start0 H).alloc (.lst [.int 0]) k1
    walk_at "ev"
    refine for_it (walk_list (xs := ns.map V.int)) (fun i σ H' => ∃ u : Option V, σ = [some (.ref a), some (.ref p), u] ∧ Z H H' [(2, p, .lst ((sumsTo ns i).map V.int))]) ⟨none, rfl, z1⟩ (fun i σ H' _ p => ?_) (fun i x σ H' H'' hi p y => ?_) (fun σ H' p => ?_)
    · obtain ⟨u, _, z⟩ := p
      exact SqL.of (z.keep ha (by simp))
    · obtain ⟨u, rfl, z⟩ := p
      obtain ⟨rfl, hx⟩ := y
      obtain rfl := nth_at hx
      have hi' : i < ns.length := by omega
      walk_at "ev"
      refine r_at (atI_end (by rw [sumsTo_len]; omega)) ?_
      rw [sumsTo_len, Nat.add_sub_cancel, nth_sumsTo (Nat.le_refl _)]
      walk_at "ev"
      refine r_app (z.get (.head _)) (smalllt' (by rw [List.length_map, sumsTo_len]; omega)) ?_
      walk_at "ev"
      refine ⟨_, rfl, ?_⟩
      rw [← take_sum hi', show [V.int (ns.take (i + 1)).sum] = [(ns.take (i + 1)).sum].map V.int from rfl, ← List.map_append, ← sumsTo_succ]
      exact z.set 0 _ rfl (.inr rfl)
    · obtain ⟨u, rfl, z⟩ := p
      rw [hl] at z
      walk_at "ev"
      exact k p H' k1 (z.fr0 (by simp)) (z.get (.head _))
end
set_option Elab.async false
set_option linter.all false
set_option maxRecDepth 100000
set_option maxHeartbeats 4000000
inductive Od where
  | non
  | bl (b : Bool)
  | int (i : Int)
  | str (s : Str)
  | lst (l : List Od)
  | tup (l : List Od)
  | dic
mutual
/-- an object lies as d says -/
inductive OAt (H : Hp) : V → Od → Prop where
  | non : OAt H .non .non
  | bl (b : Bool) : OAt H (.bl b) (.bl b)
  | int (i : Int) : OAt H (.int i) (.int i)
  | str (s : Str) : OAt H (.str s) (.str s)
  | lst {a : Addr} {xs : List V} {ds : List Od} (h : H a = some (.lst xs)) (t : OAll H xs ds) : OAt H (.ref a) (.lst ds)
  | tup {a : Addr} {xs : List V} {ds : List Od} (h : H a = some (.tup xs)) (t : OAll H xs ds) : OAt H (.ref a) (.tup ds)
  | dic {a : Addr} (h : H a = some (.dK [])) : OAt H (.ref a) .dic
inductive OAll (H : Hp) : List V → List Od → Prop where
  | nil : OAll H [] []
  | cons {v : V} {vs : List V} {d : Od} {ds : List Od} (h : OAt H v d) (t : OAll H vs ds) : OAll H (v :: vs) (d :: ds)
end
mutual
theorem OAt.mono {H H' : Hp} (f : Fr [] H H') : ∀ {v : V} {d : Od}, OAt H v d → OAt H' v d
  | _, _, .non => .non
  | _, _, .bl b => .bl b
  | _, _, .int i => .int i
  | _, _, .str s => .str s
  | _, _, .lst h t => .lst (f _ _ (fun m => nomatch m) h) (OAll.mono f t)
  | _, _, .tup h t => .tup (f _ _ (fun m => nomatch m) h) (OAll.mono f t)
  | _, _, .dic h => .dic (f _ _ (fun m => nomatch m) h)
theorem OAll.mono {H H' : Hp} (f : Fr [] H H') : ∀ {vs : List V} {ds : List Od}, OAll H vs ds → OAll H' vs ds
  | _, _, .nil => .nil
  | _, _, .cons h t => .cons (OAt.mono f h) (OAll.mono f t)
end
theorem OAll.length {H : Hp} : ∀ {vs : List V} {ds : List Od}, OAll H vs ds → vs.length = ds.length
  | _, _, .nil => rfl
  | _, _, .cons _ t => by rw [List.length_cons, List.length_cons, OAll.length t]
theorem OAll.get {H : Hp} : ∀ {vs : List V} {ds : List Od} {i : Nat} {v : V}, OAll H vs ds → vs[i]? = some v → ∃ d, ds[i]? = some d ∧ OAt H v d
  | _, _, 0, _, .cons h _, e => by cases e; exact ⟨_, rfl, h⟩
  | _, _, i + 1, _, .cons (vs := vs) (ds := ds) _ t, e => by
    rw [List.getElem?_cons_succ] at e
    obtain ⟨d, h1, h2⟩ := OAll.get t e
    exact ⟨d, by rw [List.getElem?_cons_succ]; exact h1, h2⟩
theorem OAll.append {H : Hp} : ∀ {vs us : List V} {ds es : List Od}, OAll H vs ds → OAll H us es → OAll H (vs ++ us) (ds ++ es)
  | _, _, _, _, .nil, u => u
  | _, _, _, _, .cons h t, u => .cons h (t.append u)
theorem OAll.take {H : Hp} : ∀ {vs : List V} {ds : List Od} (n : Nat), OAll H vs ds → OAll H (vs.take n) (ds.take n)
  | _, _, 0, _ => .nil
  | _, _, _ + 1, .nil => .nil
  | _, _, n + 1, .cons h t => .cons h (t.take n)
theorem OAll.drop {H : Hp} : ∀ {vs : List V} {ds : List Od} (n : Nat), OAll H vs ds → OAll H (vs.drop n) (ds.drop n)
  | _, _, 0, h => h
  | _, _, _ + 1, .nil => .nil
  | _, _, n + 1, .cons _ t => t.drop n
theorem OAll.reverse {H : Hp} : ∀ {vs : List V} {ds : List Od}, OAll H vs ds → OAll H vs.reverse ds.reverse
  | _, _, .nil => .nil
  | _, _, .cons h t => by
    rw [List.reverse_cons, List.reverse_cons]
    exact t.reverse.append (.cons h .nil)
/-- its type -/
def Od.ty : Od → String
  | .non => "NoneType"
  | .bl _ => "bool"
  | .int _ => "int"
  | .str _ => "str"
  | .lst _ => "list"
  | .tup _ => "tuple"
  | .dic => "dict"
theorem OAt.tyX {K : PySem.W.Frag} {H : Hp} {v : V} {d : Od} (h : OAt H v d) : TyX K H v (.type d.ty) := by
  cases h with
  | non => exact .base .non
  | bl b => exact .base (.bl b)
  | int i => exact .base (.int i)
  | str s => exact .base (.str s)
  | lst h _ => exact .base (.lst h)
  | tup h _ => exact .base (.tup h)
  | dic h => exact .base (.dK h)
def Od.isT : Od → Bool
  | .tup _ => true
  | _ => false
def Od.isL : Od → Bool
  | .lst _ => true
  | _ => false
theorem Od.kitT {K : PySem.W.Frag} (d : Od) : PySem.W.kitOne K (.type d.ty) (.type "tuple") = some d.isT := by
  cases d with
  | non => exact kit_ty (a := "NoneType") (b := "tuple") (r := false) (by decide +kernel)
  | bl _ => exact kit_ty (a := "bool") (b := "tuple") (r := false) (by decide +kernel)
  | int _ => exact kit_ty (a := "int") (b := "tuple") (r := false) (by decide +kernel)
  | str _ => exact kit_ty (a := "str") (b := "tuple") (r := false) (by decide +kernel)
  | lst _ => exact kit_ty (a := "list") (b := "tuple") (r := false) (by decide +kernel)
  | tup _ => exact kit_ty (a := "tuple") (b := "tuple") (r := true) (by decide +kernel)
  | dic => exact kit_ty (a := "dict") (b := "tuple") (r := false) (by decide +kernel)
theorem Od.kitL {K : PySem.W.Frag} (d : Od) : PySem.W.kitOne K (.type d.ty) (.type "list") = some d.isL := by
  cases d with
  | non => exact kit_ty (a := "NoneType") (b := "list") (r := false) (by decide +kernel)
  | bl _ => exact kit_ty (a := "bool") (b := "list") (r := false) (by decide +kernel)
  | int _ => exact kit_ty (a := "int") (b := "list") (r := false) (by decide +kernel)
  | str _ => exact kit_ty (a := "str") (b := "list") (r := false) (by decide +kernel)
  | lst _ => exact kit_ty (a := "list") (b := "list") (r := true) (by decide +kernel)
  | tup _ => exact kit_ty (a := "tuple") (b := "list") (r := false) (by decide +kernel)
  | dic => exact kit_ty (a := "dict") (b := "list") (r := false) (by decide +kernel)
theorem r_isLo {K : PySem.W.Frag} {H : Hp} {Q : VK} {v : V} {d : Od} (h : OAt H v d) (q : Q (.bl d.isL) H) : rIsi K [v, .ty "list"] H Q := r_isi (.ty _) h.tyX d.kitL q
set_option Elab.async false
set_option linter.all false
set_option maxRecDepth 100000
set_option maxHeartbeats 4000000
set_option exponentiation.threshold 3000
local macro_rules | `(tactic| walk_at "ev.1") => `(tactic| with_reducible first
  | refine' r_seq ?_ | refine' r_asg ?_ | refine' r_op ?_ | (refine' r_var ?v ?_; (case v => k_dflt exact rfl)) | refine' r_c ?_ | refine' r_name ?_ | refine' r_I0 ?_
  | (refine' r_I ?c ?_; (case c => k_dflt exact pow10 (by decide)))
  | refine' r_cons ?_ | refine' r_nil ?_ | refine' r_call ?_ | refine' r_drop ?_ | refine' r_ret ?_ | refine' r_ifs ?_ | refine' r_test ?_ | refine' r_exif ?_ | refine' r_un ?_ | refine' r_U ?_
  | (refine' r_ixL ?s ?_; (case s => k_dflt walk_at "ev.sq")) | (refine' r_ixT ?s ?_; (case s => k_dflt walk_at "ev.st")) | (refine' r_at ?e ?_; (case e => k_dflt exact rfl)) | (refine' r_ixn ?e ?_; (case e => k_dflt exact rfl)) | (refine' r_ixST (r_ixT ?s ?_); (case s => k_dflt walk_at "ev.st")) | (refine' r_ixSL (r_ixL ?s ?_); (case s => k_dflt walk_at "ev.sq"))
  | refine' r_cb ?_ | refine' r_B ?_ | refine' r_and ?_ | refine' r_or ?_ | refine' r_not ?_ | refine' r_andV ?_ | refine' r_orV ?_ | refine' r_notV ?_ | refine' r_if ?_
  | refine' iteT ?_ | refine' iteF ?_ | refine' iteNT ?_ | refine' iteNF ?_ | refine' r_chain ?_
  | (refine' r_gtup ?s ?e ?_; (case s => k_dflt walk_at "ev.st"); (case e => k_dflt exact rfl)) | refine' r_gcons ?_ | refine' r_gnil ?_ | refine' r_gsub ?_
  | (refine' r_setL ?s ?_; (case s => k_dflt walk_at "ev.hg")) | refine' r_tup ?_ | refine' r_lst ?_
  | refine' r_bm ?_ | (refine' r_tyL ?s ?_; (case s => k_dflt walk_at "ev.hg")) | (refine' r_app ?s ?e ?_; (case s => k_dflt walk_at "ev.hg"); (case e => k_dflt walk_at "ev.szl"))
  | refine' r_sl ?_ | refine' r_part ?_ | refine' r_exint ?_ | refine' r_nopart ?_ | (refine' r_slL ?s ?_; (case s => k_dflt walk_at "ev.sq")) | refine' r_revL ?_ | (refine' r_exrev ?s ?_; (case s => k_dflt walk_at "ev.sq"))
  | (refine' r_eq ?e ?_; (case e => k_dflt exact rfl)) | (refine' r_ne ?e ?_; (case e => k_dflt exact rfl)) | refine' r_par ?_ | refine' r_expar ?_ | refine' r_par3 ?_ | refine' r_expar3 ?_ | refine' r_methK ?_ | refine' r_callKw ?_ | refine' r_ckw ?_ | refine' r_zipL ?_ | refine' r_augS ?_ | refine' r_ipI ?_ | refine' r_ienumS ?_ | (refine' r_sum ?s ?_; (case s => k_dflt walk_at "ev.sq")) | (refine' r_glst ?s ?e ?_; (case s => k_dflt walk_at "ev.sq"); (case e => k_dflt exact rfl))
  | (refine' r_cat ?a ?b ?e ?_; (case a => k_dflt walk_at "ev.hg"); (case b => k_dflt walk_at "ev.hg"); (case e => k_dflt walk_at "ev.sz"))
  | refine' r_for ?_ | refine' r_lc ?_ | refine' r_ilist ?_ | (refine' r_exil ?s ?_; (case s => k_dflt walk_at "ev.sq")) | refine' r_itup ?_ | (refine' r_exit ?s ?_; (case s => k_dflt walk_at "ev.st"))
  | refine' r_irng1 ?_ | refine' r_irng2 ?_ | refine' r_irng3 ?_ | refine' r_izip ?_ | refine' r_izip3 ?_ | refine' r_izip4 ?_ | (refine' r_exz3 ?a ?b ?c ?_; (case a => k_dflt walk_at "ev.sq"); (case b => k_dflt walk_at "ev.sq"); (case c => k_dflt walk_at "ev.sq")) | (refine' r_exz4 ?a ?b ?c ?d ?_; (case a => k_dflt walk_at "ev.sq"); (case b => k_dflt walk_at "ev.sq"); (case c => k_dflt walk_at "ev.sq"); (case d => k_dflt walk_at "ev.sq")) | refine' r_ienum ?_
  | (refine' r_exz ?a ?b ?_; (case a => k_dflt walk_at "ev.sq"); (case b => k_dflt walk_at "ev.sq")) | (refine' r_exen ?a ?_; (case a => k_dflt walk_at "ev.sq"))
  | refine' r_yes ?_ | (refine' r_len ?s ?_; (case s => k_dflt walk_at "ev.sq")) | (refine' r_lenT ?s ?_; (case s => k_dflt walk_at "ev.st")) | refine' r_int1 ?_ | refine' r_int2 ?_ | refine' r_int3 ?_
  | (refine' r_mk ?e ?_; (case e => k_dflt exact Nat.le_of_ble_eq_true rfl))
  | refine' r_chain3 ?_ | refine' r_tru ?_ | (refine' r_truL ?s ?_; (case s => k_dflt walk_at "ev.sq")) | refine' r_bm0 ?_ | refine' r_star ?_ | (refine' r_exstarT ?s ?_; (case s => k_dflt walk_at "ev.st")) | (refine' r_aug ?s ?_; (case s => k_dflt exact rfl)) | refine' r_break ?_ | refine' r_cont ?_ | refine' r_gsl ?_
  | refine' r_make ?_ | refine' r_meth ?_ | refine' r_prop ?_ | refine' r_fld ?_ | refine' r_sfld ?_ | refine' r_next ?_)
/-- data of a depth -/
inductive Ak : Nat → Od → Prop where
  | non {n : Nat} : Ak n .non
  | bl {n : Nat} (b : Bool) : Ak n (.bl b)
  | int {n : Nat} (i : Int) : Ak n (.int i)
  | str {n : Nat} (s : Str) : Ak n (.str s)
  | lst {n : Nat} {ds : List Od} (l : ds.length ≤ 10000) (h : ∀ d ∈ ds, Ak n d) : Ak (n + 1) (.lst ds)
  | tup {n : Nat} {ds : List Od} (l : ds.length ≤ 10000) (h : ∀ d ∈ ds, Ak n d) : Ak (n + 1) (.tup ds)
def Od.isB : Od → Bool
  | .bl _ => true
  | _ => false
def Od.isI : Od → Bool
  | .bl _ => true
  | .int _ => true
  | _ => false
def Od.isS : Od → Bool
  | .str _ => true
  | _ => false
def Od.isQ : Od → Bool
  | .lst _ => true
  | .tup _ => true
  | _ => false
section
variable {K : PySem.W.Frag} {H : Hp} {Q : VK} {v : V} {d : Od}
theorem Od.kitB (d : Od) : PySem.W.kitOne K (.type d.ty) (.type "bool") = some d.isB := by
  cases d with
  | non => exact kit_ty (a := "NoneType") (b := "bool") (r := false) (by decide +kernel)
  | bl _ => exact kit_ty (a := "bool") (b := "bool") (r := true) (by decide +kernel)
  | int _ => exact kit_ty (a := "int") (b := "bool") (r := false) (by decide +kernel)
  | str _ => exact kit_ty (a := "str") (b := "bool") (r := false) (by decide +kernel)
  | lst _ => exact kit_ty (a := "list") (b := "bool") (r := false) (by decide +kernel)
  | tup _ => exact kit_ty (a := "tuple") (b := "bool") (r := false) (by decide +kernel)
  | dic => exact kit_ty (a := "dict") (b := "bool") (r := false) (by decide +kernel)
theorem Od.kitI (d : Od) : PySem.W.kitOne K (.type d.ty) (.type "int") = some d.isI := by
  cases d with
  | non => exact kit_ty (a := "NoneType") (b := "int") (r := false) (by decide +kernel)
  | bl _ => exact kit_ty (a := "bool") (b := "int") (r := true) (by decide +kernel)
  | int _ => exact kit_ty (a := "int") (b := "int") (r := true) (by decide +kernel)
  | str _ => exact kit_ty (a := "str") (b := "int") (r := false) (by decide +kernel)
  | lst _ => exact kit_ty (a := "list") (b := "int") (r := false) (by decide +kernel)
  | tup _ => exact kit_ty (a := "tuple") (b := "int") (r := false) (by decide +kernel)
  | dic => exact kit_ty (a := "dict") (b := "int") (r := false) (by decide +kernel)
theorem Od.kitS (d : Od) : PySem.W.kitOne K (.type d.ty) (.type "str") = some d.isS := by
  cases d with
  | non => exact kit_ty (a := "NoneType") (b := "str") (r := false) (by decide +kernel)
  | bl _ => exact kit_ty (a := "bool") (b := "str") (r := false) (by decide +kernel)
  | int _ => exact kit_ty (a := "int") (b := "str") (r := false) (by decide +kernel)
  | str _ => exact kit_ty (a := "str") (b := "str") (r := true) (by decide +kernel)
  | lst _ => exact kit_ty (a := "list") (b := "str") (r := false) (by decide +kernel)
  | tup _ => exact kit_ty (a := "tuple") (b := "str") (r := false) (by decide +kernel)
  | dic => exact kit_ty (a := "dict") (b := "str") (r := false) (by decide +kernel)
theorem r_isB (h : OAt H v d) (q : Q (.bl d.isB) H) : rIsi K [v, .ty "bool"] H Q := r_isi (.ty _) h.tyX d.kitB q
theorem r_isIo (h : OAt H v d) (q : Q (.bl d.isI) H) : rIsi K [v, .ty "int"] H Q := r_isi (.ty _) h.tyX d.kitI q
theorem r_isS (h : OAt H v d) (q : Q (.bl d.isS) H) : rIsi K [v, .ty "str"] H Q := r_isi (.ty _) h.tyX d.kitS q
/-- a list or a tuple -/
theorem r_isQ {t : Addr} (h : OAt H v d) (ht : H t = some (.tup [.ty "list", .ty "tuple"])) (q : Q (.bl d.isQ) H) : rIsiT K [v, .ref t] H Q :=
  ⟨v, t, _, _, [.type "list", .type "tuple"], d.isQ, rfl, ht, .cons (.ty _) (.cons (.ty _) .nil), h.tyX, kitAny_cons d.kitL (fun y => kitAny_cons d.kitT (fun z => by
    rw [kitAny_nil, show d.isQ = false by cases d <;> first | rfl | exact Bool.noConfusion (show true = false from y) | exact Bool.noConfusion (show true = false from z)]) (fun z => by cases d <;> first | rfl | exact Bool.noConfusion (show false = true from z))) (fun z => by cases d <;> first | rfl | exact Bool.noConfusion (show false = true from z)), q⟩
end
theorem ix_any {K : PySem.W.Frag} {H : Hp} {Q : VK} {a : Addr} {xs : List V} {i : Int} {v : V} (s : SqL K H a xs ∨ SqT K H a xs) (e : atI xs i = some v) (q : Q v H) : rIx K (.ref a) (.int i) H Q := by
  rcases s with s | s
  · exact .inl ⟨a, xs, i, v, rfl, rfl, s, e, q⟩
  · exact .inr (.inl ⟨a, xs, i, v, rfl, rfl, s, e, q⟩)
section
variable {P : Program} {w : World} {K : PySem.W.Frag} {mg : Str → Option Value} {base : Heap}
def sp_none : Sp := fun _ _ _ _ => False
def sp_ak (n : Nat) : Sp := fun vs H Q _ => ∃ (x y : V) (d : Od), vs = [x, y] ∧ OAt H x d ∧ OAt H y d ∧ Ak n d ∧ ∀ H', Fr [] H H' → Q (.bl true) H'
def sp__law_alike (K : PySem.W.Frag) : Sp := sp_ak 3
abbrev FkAk (P : Program) (w : World) (K : PySem.W.Frag) (mg : Str → Option Value) (base : Heap) (l : Nat) (sp : Sp) : Prop := Fk P w K mg base "_law_alike" ["found", "due"] l sp s__law_alike "_law_alike"
theorem ka_bot (T : Tx fa fn K mg base) : FkAk P w K mg base 1 sp_none := by
  refine T.fk 12 27 (q := "_law_alike") (st := s__law_alike) sc__law_alike (fun _ _ _ _ _ _ us hl => match us, hl with | [_, _], _ => rfl) (fun vs H Q E h => h.elim) (fun cdv A outer s H vs Q E hr h => h.elim)
theorem ka_step (T : Tx fa fn K mg base) {l n : Nat} {sp0 : Sp} (rc : FkAk P w K mg base l sp0)
    (h0 : ∀ {x y : V} {d : Od} {m : Nat} {H : Hp} {Q : VK}, n = m + 1 → OAt H x d → OAt H y d → Ak m d → (∀ H', Fr [] H H' → Q (.bl true) H') → sp0 [x, y] H Q E0) : FkAk P w K mg base (l + 1) (sp_ak n) := by
  refine T.fk 12 27 (q := "_law_alike") (st := s__law_alike) sc__law_alike (fun _ _ _ _ _ _ us hl => match us, hl with | [_, _], _ => rfl) (fun vs H Q E h => ?_) (fun cdv A outer s H vs Q E hr h => ?_)
  · obtain ⟨x, y, d, rfl, _⟩ := h
    rfl
  · obtain ⟨x, y, d, rfl, hx, hy, ak, k⟩ := h
    refine ⟨_, (pss_cons (ps_if (pt_val (pe_callB call_isiT (by rfl) (T.fr 0) (by decide +kernel) (pa_cons (pv 1) (pa_cons (pe_tup (pa_cons (pe_bltn (v := .ty "list") (u := .type "list") (by rfl) (T.fr 7) (by decide +kernel) rfl) (pa_cons (pe_bltn (v := .ty "tuple") (u := .type "tuple") (by rfl) (T.fr 26) (by decide +kernel) rfl) pa_nil))) pa_nil)))) (pss_cons (ps_if (PW.pt (pw_or (pt_not (pt_val (pe_callB call_isiT (by rfl) (T.fr 0) (by decide +kernel) (pa_cons (pv 0) (pa_cons (pe_tup (pa_cons (pe_bltn (v := .ty "list") (u := .type "list") (by rfl) (T.fr 7) (by decide +kernel) rfl) (pa_cons (pe_bltn (v := .ty "tuple") (u := .type "tuple") (by rfl) (T.fr 26) (by decide +kernel) rfl) pa_nil))) pa_nil))))) (pw_or1 (pt_cmpR op_ne (pe_callB call_isi (by rfl) (T.fr 0) (by decide +kernel) (pa_cons (pv 0) (pa_cons (pe_bltn (v := .ty "list") (u := .type "list") (by rfl) (T.fr 7) (by decide +kernel) rfl) pa_nil))) (pe_callB call_isi (by rfl) (T.fr 0) (by decide +kernel) (pa_cons (pv 1) (pa_cons (pe_bltn (v := .ty "list") (u := .type "list") (by rfl) (T.fr 7) (by decide +kernel) rfl) pa_nil))) (nomark _))))) (pss_one (ps_ret pe_bl)) pss_nil)
      (pss_cons (ps_if (pt_cmpR op_ne (pe_callB call_len_seq (by rfl) (T.fr 5) (by decide +kernel) (pa_cons (pv 0) pa_nil)) (pe_callB call_len_seq (by rfl) (T.fr 5) (by decide +kernel) (pa_cons (pv 1) pa_nil)) (nomark _)) (pss_one (ps_ret pe_bl)) pss_nil)
      (pss_one (ps_ret (pe_callB (cr_all rfl) (by rfl) (T.fr 4) (by decide +kernel) (pa_cons (pe_lc (own := [("k", 2)]) (tt := tYes) (te := (tCall sp0 [] E0 (tCons (tOp (rIx K) (tVar 0) (tVar 2)) (tCons (tOp (rIx K) (tVar 1) (tVar 2)) tNil)))) rfl sc__law_alike.nd (pi_range1 (by rfl) (T.fr 15) (pa_cons (pe_callB call_len_seq (by rfl) (T.fr 5) (by decide +kernel) (pa_cons (pv 1) pa_nil)) pa_nil)) (blkOk_by (N := ["found", "due", "k"]) (sc := defScope s__law_alike) (by decide +kernel)) (fun _ _ _ _ _ => (pg_name (i := 2) sc__law_alike.nd rfl (by first | exact Or.inl rfl | exact Or.inr rfl))) (fun _ _ _ _ _ => pts_nil) (fun _ _ _ _ _ => (pe_f rc hr (pa_cons (pe_ix ix_seq (pv 0) (pv 2) (fun _ _ => rfl)) (pa_cons (pe_ix ix_seq (pv 1) (pv 2) (fun _ _ => rfl)) pa_nil)) (Nat.le_refl _)))) pa_nil)))))) pss_nil)
      (pss_cons (ps_if (PW.pt (pw_or (pt_cmpR op_ne (pe_callB call_isi (by rfl) (T.fr 0) (by decide +kernel) (pa_cons (pv 0) (pa_cons (pe_bltn (v := .ty "bool") (u := .type "bool") (by rfl) (T.fr 1) (by decide +kernel) rfl) pa_nil))) (pe_callB call_isi (by rfl) (T.fr 0) (by decide +kernel) (pa_cons (pv 1) (pa_cons (pe_bltn (v := .ty "bool") (u := .type "bool") (by rfl) (T.fr 1) (by decide +kernel) rfl) pa_nil))) (nomark _)) (pw_or1 (pt_cmpR op_ne (pe_callB call_isi (by rfl) (T.fr 0) (by decide +kernel) (pa_cons (pv 0) (pa_cons (pe_bltn (v := .ty "int") (u := .type "int") (by rfl) (T.fr 2) (by decide +kernel) rfl) pa_nil))) (pe_callB call_isi (by rfl) (T.fr 0) (by decide +kernel) (pa_cons (pv 1) (pa_cons (pe_bltn (v := .ty "int") (u := .type "int") (by rfl) (T.fr 2) (by decide +kernel) rfl) pa_nil))) (nomark _))))) (pss_one (ps_ret pe_bl)) pss_nil)
      (pss_one (ps_ret (pe_and (pe_cmpR op_eq (pe_callB call_isi (by rfl) (T.fr 0) (by decide +kernel) (pa_cons (pv 0) (pa_cons (pe_bltn (v := .ty "str") (u := .type "str") (by rfl) (T.fr 25) (by decide +kernel) rfl) pa_nil))) (pe_callB call_isi (by rfl) (T.fr 0) (by decide +kernel) (pa_cons (pv 1) (pa_cons (pe_bltn (v := .ty "str") (u := .type "str") (by rfl) (T.fr 25) (by decide +kernel) rfl) pa_nil))) (nomark _)) (pe_one (pe_cmpR op_eq (pv 0) (pv 1) (nomark _)))))))), ?_⟩
    walk_at "ev0"
    intro t1 kt1
    have f1 : Fr [] H _ := (Fr.refl H).new (o := .tup [.ty "list", .ty "tuple"]) kt1
    have hx1 := hx.mono f1
    have hy1 := hy.mono f1
    walk_at "ev"
    refine r_isQ hy1 upd_same ?_
    generalize upd H t1 _ = H1 at f1 hx1 hy1 ⊢
    walk_at "ev"
    cases q : d.isQ with
    | false =>
      have xy : x = y := by
        cases hx1 <;> cases hy1 <;> first | rfl | exact Bool.noConfusion (show true = false from q) | exact nomatch ak
      have fl : scal y y = true := by
        cases hy1 <;> first | rfl | exact Bool.noConfusion (show true = false from q) | exact nomatch ak
      refine iteF ?_
      walk_at "ev"
      refine r_isB hx1 ?_
      walk_at "ev"
      refine r_isB hy1 ?_
      walk_at "ev"
      refine r_iteNY rfl ?_
      walk_at "ev"
      refine r_isIo hx1 ?_
      walk_at "ev"
      refine r_isIo hy1 ?_
      walk_at "ev"
      refine r_iteNY rfl ?_
      walk_at "ev"
      refine r_isS hx1 ?_
      walk_at "ev"
      refine r_isS hy1 ?_
      walk_at "ev"
      rw [xy]
      rw [if_pos (decide_eq_true rfl)]
      walk_at "ev"
      refine r_eq fl ?_
      rw [decide_eq_true rfl]
      exact k _ f1
    | true =>
      have sq : ∃ (a b : Addr) (xs ys : List V) (ds : List Od) (m : Nat), x = .ref a ∧ y = .ref b ∧ (SqL K H1 a xs ∨ SqT K H1 a xs) ∧ (SqL K H1 b ys ∨ SqT K H1 b ys) ∧ OAll H1 xs ds ∧ OAll H1 ys ds ∧ ds.length ≤ 10000 ∧ n = m + 1 ∧ ∀ e ∈ ds, Ak m e := by
        cases ak with
        | lst l h =>
          cases hx1 with | lst g1 t1 =>
          cases hy1 with | lst g2 t2 =>
          exact ⟨_, _, _, _, _, _, rfl, rfl, .inl (SqL.of g1), .inl (SqL.of g2), t1, t2, l, rfl, h⟩
        | tup l h =>
          cases hx1 with | tup g1 t1 =>
          cases hy1 with | tup g2 t2 =>
          exact ⟨_, _, _, _, _, _, rfl, rfl, .inr (SqT.of g1), .inr (SqT.of g2), t1, t2, l, rfl, h⟩
        | non => exact Bool.noConfusion (show false = true from q)
        | bl b => exact Bool.noConfusion (show false = true from q)
        | int b => exact Bool.noConfusion (show false = true from q)
        | str b => exact Bool.noConfusion (show false = true from q)
      refine iteT ?_
      walk_at "ev"
      intro t2 kt2
      have f2 : Fr [] H1 _ := (Fr.refl H1).new (o := .tup [.ty "list", .ty "tuple"]) kt2
      have hx2 := hx1.mono f2
      have hy2 := hy1.mono f2
      walk_at "ev"
      refine r_isQ hx2 upd_same ?_
      rw [q]
      generalize upd H1 t2 _ = H2 at f2 hx2 hy2 ⊢
      walk_at "ev"
      refine r_isLo hx2 ?_
      walk_at "ev"
      refine r_isLo hy2 ?_
      walk_at "ev"
      refine r_iteNY rfl ?_
      walk_at "ev"
      obtain ⟨a, b, xs, ys, ds, m, rfl, rfl, sx, sy, ax, ay, l9, rfl, hak⟩ := sq
      have lx := ax.length
      have ly := ay.length
      have sx2 : SqL K H2 a xs ∨ SqT K H2 a xs := sx.imp (fun h => f2.sql h nin) (fun h => f2.sqt h nin)
      have sy2 : SqL K H2 b ys ∨ SqT K H2 b ys := sy.imp (fun h => f2.sql h nin) (fun h => f2.sqt h nin)
      refine ⟨a, xs, rfl, sx2, ?_⟩
      walk_at "ev"
      refine ⟨b, ys, rfl, sy2, ?_⟩
      walk_at "ev"
      refine r_iteNY (by rw [lx, ly]) ?_
      walk_at "ev"
      refine ⟨b, ys, rfl, sy2, ?_⟩
      walk_at "ev"
      refine ⟨by omega, by omega, ?_⟩
      have ey : ((ys.length : Int)).toNat = ys.length := by omega
      rw [ey]
      refine lc_pure (walk_range (lo := 0)) (fun _ => .bl true) (show ys.length ≤ 100000 by omega) (fun H' e => trivial) (fun i H' x H'' y => by rw [y.1]; exact Fr.refl _) (fun i x H' H'' R' hi e yy kR => ?_) (fun D H3 hD e3 hD' => ?_)
      · obtain ⟨rfl, rfl⟩ := yy
        have e1 : (0 : Int) + (i : Int) = (i : Int) := by omega
        simp only [e1]
        have fe := f2.trans e
        obtain ⟨v1, g1⟩ : ∃ v1, xs[i]? = some v1 := ⟨_, List.getElem?_eq_getElem (by omega)⟩
        obtain ⟨v2, g2⟩ : ∃ v2, ys[i]? = some v2 := ⟨_, List.getElem?_eq_getElem (by omega)⟩
        obtain ⟨d1, q1, o1⟩ := ax.get g1
        obtain ⟨d2, q2, o2⟩ := ay.get g2
        obtain rfl : d1 = d2 := Option.some.inj (q1.symm.trans q2)
        walk_at "ev"
        refine ⟨rfl, ?_⟩
        walk_at "ev"
        refine ix_any (sx2.imp (fun h => e.sql h nin) (fun h => e.sqt h nin)) (atI_nat g1) ?_
        walk_at "ev"
        refine ix_any (sy2.imp (fun h => e.sql h nin) (fun h => e.sqt h nin)) (atI_nat g2) ?_
        walk_at "ev"
        exact h0 rfl (o1.mono fe) (o2.mono fe) (hak _ (List.mem_of_getElem? q1)) fun H4 f4 => kR _ f4
      walk_at "ev"
      refine r_allB (bs := (List.range ys.length).map fun _ => true) (b := true) (SqL.of (by rw [List.map_map]; exact hD')) (by simp) ?_
      exact k _ ((f1.trans f2).trans e3)
theorem ak_up {m : Nat} {x y : V} {d : Od} {H : Hp} {Q : VK} (h1 : OAt H x d) (h2 : OAt H y d) (a : Ak m d) (k : ∀ H', Fr [] H H' → Q (.bl true) H') : sp_ak m [x, y] H Q E0 := ⟨x, y, d, rfl, h1, h2, a, k⟩
theorem ka_0 (T : Tx fa fn K mg base) : FkAk P w K mg base 2 (sp_ak 0) := ka_step (n := 0) T (ka_bot T) fun e => nomatch e
theorem ka_1 (T : Tx fa fn K mg base) : FkAk P w K mg base 3 (sp_ak 1) := ka_step (n := 1) T (ka_0 T) fun e h1 h2 a k => by obtain rfl := Nat.succ.inj e; exact ak_up h1 h2 a k
theorem ka_2 (T : Tx fa fn K mg base) : FkAk P w K mg base 4 (sp_ak 2) := ka_step (n := 2) T (ka_1 T) fun e h1 h2 a k => by obtain rfl := Nat.succ.inj e; exact ak_up h1 h2 a k
theorem k__law_alike (T : Tx fa fn K mg base) : Fk P w K mg base "_law_alike" ["found", "due"] 5 (sp__law_alike K) s__law_alike "_law_alike" := ka_step (n := 3) T (ka_2 T) fun e h1 h2 a k => by obtain rfl := Nat.succ.inj e; exact ak_up h1 h2 a k
end
set_option Elab.async false
set_option linter.all false
set_option maxRecDepth 100000
set_option maxHeartbeats 4000000
set_option Elab.async false
set_option linter.all false
set_option maxRecDepth 100000
set_option maxHeartbeats 4000000
set_option exponentiation.threshold 3000
theorem hu65 {k : Nat} {A : Around} (h : Room k A) : A.units + 65 < cLine := by
  have := h.un
  omega
theorem ifmax (i j : Int) : (if j > i then j else i) = max i j := by split <;> omega
theorem r_asg2 {te : TE} {g1 g2 : TG} {D : Ends} {σ : L2.St} {H : Hp} (h : te σ H fun x H1 => g1 x σ H1 fun σ1 H2 => g2 x σ1 H2 D.nx) : tAsg2 te g1 g2 D σ H := h
theorem r_neI {K : PySem.W.Frag} {H : Hp} {Q : VK} {a b : Addr} {ns ms : List Int} (ha : SqL K H a (ns.map V.int)) (hb : SqL K H b (ms.map V.int)) (q : Q (.bl (!decide (ns = ms))) H) : rNeD K (.ref a) (.ref b) H Q := by
  refine ⟨.list (ns.map PyData.int), .list (ms.map PyData.int), .lst ha (dpAll_ints ns), .lst hb (dpAll_ints ms), shaped_ints ns, shaped_ints ms, ?_⟩
  rw [PyData.eqv, PySem.W.ked_eqvAll]
  exact q
theorem three_at {a b c v : Int} (h0 : 0 ≤ v) (h1 : v < 3) : ∃ x, atI [V.int a, V.int b, V.int c] v = some (.int x) ∧ (x = a ∨ x = b ∨ x = c) := by
  rcases (show v = 0 ∨ v = 1 ∨ v = 2 by omega) with rfl | rfl | rfl
  · exact ⟨a, rfl, .inl rfl⟩
  · exact ⟨b, rfl, .inr (.inl rfl)⟩
  · exact ⟨c, rfl, .inr (.inr rfl)⟩
theorem wdiv5 {i : Int} : CDivW i 5 := wide_div (b := 10) (by decide) (by decide) (by decide) (by decide)
section
variable {P : Program} {w : World} {K : PySem.W.Frag} {mg : Str → Option Value} {base : Heap}
def sp__check_needs (K : PySem.W.Frag) : Sp := fun vs H Q _ => ∃ (a : Addr) (ns : List Int), vs = [.ref a] ∧ H a = some (.lst (ns.map V.int)) ∧ (1 ≤ ns.length ∧ ns.length ≤ 200) ∧ (∀ x ∈ ns, 0 ≤ x) ∧ ∀ H', Fr [] H H' → Q .non H'
theorem k__check_needs (T : Tx fa fn K mg base) : Fk P w K mg base "_check_needs" ["needs"] 3 (sp__check_needs K) s__check_needs "_check_needs" := by
  refine T.fk 3 11 (q := "_check_needs") (st := s__check_needs) sc__check_needs (fun _ _ _ _ _ _ us hl => match us, hl with | [_], _ => rfl) (fun vs H Q E h => ?_) (fun cdv A outer s H vs Q E hr h => ?_)
  · obtain ⟨a, ns, rfl, _⟩ := h
    rfl
  · obtain ⟨a, ns, rfl, ha, hn, pos, k⟩ := h
    refine ⟨_, (pss_one (ps_if (PW.pt (pw_or (pt_not (pt_val (pe_f (k_is_whole_list T) hr (pa_cons (pv 0) pa_nil)))) (pw_or1 (pt_cmpR op_lt (pe_callB (cr_min rfl) (by rfl) (T.fr 10) (by decide +kernel) (pa_cons (pv 0) pa_nil)) pe_int (nomark _))))) (pss_one ps_never) pss_nil)), ?_⟩
    walk_at "ev0"
    refine ⟨a, ns, rfl, ha, hn, fun H1 f1 => ?_⟩
    have ha1 := f1 _ _ nin ha
    obtain ⟨m, m1, m2⟩ := min_ex (ns := ns) (by omega)
    have m0 := pos m m1
    walk_at "ev"
    refine r_minM (SqL.of ha1) m1 m2 ?_
    walk_at "ev"
    refine r_iteZ (by omega) ?_
    walk_at "ev"
    exact k _ f1
def sp__check_numbers (K : PySem.W.Frag) : Sp := fun vs H Q _ => ∃ (a : Addr) (ms : List Int), vs = [.ref a] ∧ H a = some (.lst (ms.map V.int)) ∧ ms.length ≤ 1000 ∧ (∀ x ∈ ms, 0 ≤ x) ∧ ∀ H', Fr [] H H' → Q .non H'
theorem k__check_numbers (T : Tx fa fn K mg base) : Fk P w K mg base "_check_numbers" ["numbers"] 2 (sp__check_numbers K) s__check_numbers "_check_numbers" := by
  refine T.fk 4 12 (q := "_check_numbers") (st := s__check_numbers) sc__check_numbers (fun _ _ _ _ _ _ us hl => match us, hl with | [_], _ => rfl) (fun vs H Q E h => ?_) (fun cdv A outer s H vs Q E hr h => ?_)
  · obtain ⟨a, ms, rfl, _⟩ := h
    rfl
  · obtain ⟨a, ms, rfl, ha, hn, pos, k⟩ := h
    have hln : (ms.map V.int).length = ms.length := List.length_map _
    refine ⟨_, (pss_one (ps_if (pt_not (pt_val (pe_callB (cr_all rfl) (by rfl) (T.fr 4) (by decide +kernel) (pa_cons (pe_lc (own := [("number", 1)]) (tt := tYes) (te := (tAndV (tCall (sp_is_whole K) [] E0 (tCons (tVar 1) tNil)) (tOp (rI0 fun i j => .bl (decide (j ≤ i))) (tVar 1) (tC (.int 0))))) rfl sc__check_numbers.nd (pi_list (pv 0)) (blkOk_by (N := ["numbers", "number"]) (sc := defScope s__check_numbers) (by decide +kernel)) (fun _ _ _ _ _ => (pg_name (i := 1) sc__check_numbers.nd rfl (by first | exact Or.inl rfl | exact Or.inr rfl))) (fun _ _ _ _ _ => pts_nil) (fun _ _ _ _ _ => (pe_and (pe_f (k_is_whole T) hr (pa_cons (pv 1) pa_nil)) (pe_one (pe_cmpR op_ge (pv 1) pe_int (nomark _)))))) pa_nil)))) (pss_one ps_never) pss_nil)), ?_⟩
    walk_at "ev0"
    refine lc_pure (walk_list (xs := ms.map V.int)) (fun _ => .bl true) (by omega) (fun H' e => e.sql (SqL.of ha) nin) (fun i H' x H'' y => by rw [y.1]; exact Fr.refl _) (fun i x H' H'' R hi e y kR => ?_) (fun D H3 hD e hD' => ?_)
    · obtain ⟨rfl, hx⟩ := y
      obtain rfl := nth_at hx
      have p := pos _ (nth_mem (ns := ms) (i := i) (by omega))
      walk_at "ev"
      refine ⟨rfl, ?_⟩
      walk_at "ev"
      refine whole_int ?_
      walk_at "ev"
      rw [decide_eq_true (show (0 : Int) ≤ nth ms i from p)]
      exact kR _ (Fr.refl _)
    walk_at "ev"
    refine r_allB (bs := (List.range (ms.map V.int).length).map fun _ => true) (b := true) (SqL.of (by rw [List.map_map]; exact hD')) (by rw [List.all_map]; exact List.all_eq_true.mpr fun _ _ => rfl) ?_
    walk_at "ev"
    exact k _ e
def sp__buffer_at (K : PySem.W.Frag) : Sp := fun vs H Q _ => ∃ (a : Addr) (ns : List Int) (R : Int), vs = [.ref a, .int R] ∧ H a = some (.lst (ns.map V.int)) ∧ ∀ H', Fr [] H H' → Q (.int (bF ns R)) H'
theorem k__buffer_at (T : Tx fa fn K mg base) : Fk P w K mg base "_buffer_at" ["needs", "rate"] 1 (sp__buffer_at K) s__buffer_at "_buffer_at" := by
  refine T.fk 5 14 (q := "_buffer_at") (st := s__buffer_at) sc__buffer_at (fun _ _ _ _ _ _ us hl => match us, hl with | [_, _], _ => rfl) (fun vs H Q E h => ?_) (fun cdv A outer s H vs Q E hr h => ?_)
  · obtain ⟨a, ns, R, rfl, _⟩ := h
    rfl
  · obtain ⟨a, ns, R, rfl, ha, k⟩ := h
    refine ⟨_, (pss_cons (ps_asg2 pe_int (pg_name (i := 2) sc__buffer_at.nd rfl (by first | exact Or.inl rfl | exact Or.inr rfl)) (pg_name (i := 3) sc__buffer_at.nd rfl (by first | exact Or.inl rfl | exact Or.inr rfl)))
      (pss_cons (ps_for PassesOwn.never rfl (pi_list (pv 0)) (pg_name (i := 4) sc__buffer_at.nd rfl (by first | exact Or.inl rfl | exact Or.inr rfl)) (pss_cons (ps_set (i := 2) sc__buffer_at.nd rfl (by first | exact Or.inl rfl | exact Or.inr rfl) (pe_op op_add (pe_callB (call_max2 rfl) (by rfl) (T.fr 13) (by decide +kernel) (pa_cons pe_int (pa_cons (pe_op op_sub (pv 2) (pv 1)) pa_nil))) (pv 4)))
      (pss_one (ps_set (i := 3) sc__buffer_at.nd rfl (by first | exact Or.inl rfl | exact Or.inr rfl) (pe_callB (call_max2 rfl) (by rfl) (T.fr 13) (by decide +kernel) (pa_cons (pv 3) (pa_cons (pv 2) pa_nil)))))))
      (pss_one (ps_ret (pv 3))))), ?_⟩
    walk_at "ev0"
    refine r_asg2 ?_
    walk_at "ev"
    refine for_it (walk_list (xs := ns.map V.int)) (fun f σ H' => ∃ u4 : Option V, σ = [some (.ref a), some (.int R), some (.int (hF R ns f)), some (.int (mF R ns f)), u4] ∧ H' = H) ⟨none, rfl, rfl⟩ (fun i σ H' _ ⟨_, _, e⟩ => by rw [e]; exact SqL.of ha) (fun i x σ H1 H2 hi p y => ?_) (fun σ H1 p => ?_)
    · obtain ⟨u4, rfl, rfl⟩ := p
      obtain ⟨rfl, hx⟩ := y
      obtain rfl := nth_at hx
      walk_at "ev"
      rw [ifmax, ifmax]
      exact ⟨_, rfl, rfl⟩
    · obtain ⟨u4, rfl, rfl⟩ := p
      rw [List.length_map]
      walk_at "ev"
      exact k _ (Fr.refl _)
def sp_least_buffer (K : PySem.W.Frag) : Sp := fun vs H Q _ => ∃ (a : Addr) (ns : List Int) (R : Int), vs = [.ref a, .int R] ∧ H a = some (.lst (ns.map V.int)) ∧ (1 ≤ ns.length ∧ ns.length ≤ 200) ∧ (∀ x ∈ ns, 0 ≤ x) ∧ 0 ≤ R ∧ ∀ H', Fr [] H H' → Q (.int (bF ns R)) H'
theorem k_least_buffer (T : Tx fa fn K mg base) : Fk P w K mg base "least_buffer" ["needs", "rate"] 4 (sp_least_buffer K) s_least_buffer "least_buffer" := by
  refine T.fk 7 18 (q := "least_buffer") (st := s_least_buffer) sc_least_buffer (fun _ _ _ _ _ _ us hl => match us, hl with | [_, _], _ => rfl) (fun vs H Q E h => ?_) (fun cdv A outer s H vs Q E hr h => ?_)
  · obtain ⟨a, ns, R, rfl, _⟩ := h
    rfl
  · obtain ⟨a, ns, R, rfl, ha, hn, pos, r0, k⟩ := h
    refine ⟨_, (pss_cons (ps_expr (pe_f (k__check_needs T) hr (pa_cons (pv 0) pa_nil)))
      (pss_cons (ps_expr (pe_f (k__check_numbers T) hr (pa_cons (pe_lst (pa_cons (pv 1) pa_nil)) pa_nil)))
      (pss_one (ps_ret (pe_f (k__buffer_at T) hr (pa_cons (pv 0) (pa_cons (pv 1) pa_nil))))))), ?_⟩
    walk_at "ev0"
    refine ⟨a, ns, rfl, ha, hn, pos, fun H1 f1 => ?_⟩
    walk_at "ev"
    intro c kc
    have f2 : Fr [] H (upd H1 c (.lst [.int R])) := f1.new kc
    refine ⟨c, [R], rfl, upd_same, by show 1 ≤ 1000; decide, fun x hx => by rw [List.mem_singleton.mp hx]; exact r0, fun H3 f3 => ?_⟩
    have f23 := f2.trans f3
    walk_at "ev"
    refine ⟨a, ns, R, rfl, f23 _ _ nin ha, fun H4 f4 => ?_⟩
    exact k _ (f23.trans f4)
def sp__law_needs (K : PySem.W.Frag) : Sp := fun vs H Q _ => ∃ (ls j : Addr) (m far : Int) (n : Nat), vs = [.ref j, .int m, .int far] ∧ JarAt ls H j (n + 1000) ∧ (1 ≤ m ∧ m ≤ 200) ∧ (6 ≤ far ∧ far ≤ 2 ^ 100) ∧
  ∀ p (ns : List Int) H', H p = none → Fr [j] H H' → JarAt ls H' j n → H' p = some (.lst (ns.map V.int)) → (1 ≤ ns.length ∧ ns.length ≤ 200) → (∀ x ∈ ns, 0 ≤ x ∧ x ≤ far) → Q (.ref p) H'
theorem k__law_needs (T : Tx fa fn K mg base) : Fk P w K mg base "_law_needs" ["bag", "most", "far"] 3 (sp__law_needs K) s__law_needs "_law_needs" := by
  refine T.fk 13 28 (q := "_law_needs") (st := s__law_needs) sc__law_needs (fun _ _ _ _ _ _ us hl => match us, hl with | [_, _, _], _ => rfl) (fun vs H Q E h => ?_) (fun cdv A outer s H vs Q E hr h => ?_)
  · obtain ⟨ls, j, m, far, n, rfl, _⟩ := h
    rfl
  · obtain ⟨ls, j, m, far, n, rfl, hj, ⟨h1, h2⟩, ⟨f0, f9⟩, k⟩ := h
    have p100 : (2 : Int) ^ 100 * 2 < 2 ^ 1000 := by decide +kernel
    refine ⟨_, (pss_one (ps_ret (pe_lc (own := [("k", 3)]) (tt := tYes) (te := (tCall (sp__law_draw K) [] E0 (tCons (tVar 0) (tCons (tOp (rIxL K) (tLst (tCons (tC (.int 2)) (tCons (tVar 2) (tCons (tOp (rI0 fun i j => .int (i + j)) (tC (.int 1)) (tOp (rI CDivW fun i j => .int (i / j)) (tVar 2) (tC (.int 5)))) tNil)))) (tCall (sp__law_draw K) [] E0 (tCons (tVar 0) (tCons (tC (.int 3)) tNil)))) tNil)))) rfl sc__law_needs.nd (pi_range1 (by rfl) (T.fr 15) (pa_cons (pe_op op_add pe_int (pe_f (k__law_draw T) hr (pa_cons (pv 0) (pa_cons (pv 1) pa_nil)))) pa_nil)) (blkOk_by (N := ["bag", "most", "far", "k"]) (sc := defScope s__law_needs) (by decide +kernel)) (fun _ _ _ _ _ => (pg_name (i := 3) sc__law_needs.nd rfl (by first | exact Or.inl rfl | exact Or.inr rfl))) (fun _ _ _ _ _ => pts_nil) (fun _ _ _ _ _ => (pe_f (k__law_draw T) hr (pa_cons (pv 0) (pa_cons (pe_ix ix_list (pe_lst (pa_cons pe_int (pa_cons (pv 2) (pa_cons (pe_op op_add pe_int (pe_op op_fdivW (pv 2) pe_int)) pa_nil)))) (pe_f (k__law_draw T) hr (pa_cons (pv 0) (pa_cons pe_int pa_nil))) (fun _ _ => rfl)) pa_nil))))))), ?_⟩
    walk_at "ev0"
    refine ⟨ls, j, m, n + 999, rfl, hj.le (by omega), by omega, by omega, fun v H1 v0 v1 J1 q1 => ?_⟩
    have z1 := (ZJ.start hj).dips J1 q1
    walk_at "ev"
    refine ⟨by omega, by omega, ?_⟩
    refine lc_draw (fun x => 0 ≤ x ∧ x ≤ far) (n := (1 + v).toNat) (c := 2) (m := n) walk_range (by omega) (z1.le (by omega)) (fun i H' D ns R hi hl z kR => ?_) (fun dr ns H2 hl pp z2 => ?_)
    · walk_at "ev"
      refine ⟨rfl, ?_⟩
      walk_at "ev"
      refine r_I wdiv5 ?_
      walk_at "ev"
      intro t kt
      have z3 := z.alloc (.lst [.int 2, .int far, .int (1 + far / 5)]) kt
      walk_at "ev"
      refine ⟨ls, j, 3, n + 2 * ((1 + v).toNat - i) - 1, rfl, z3.jar.le (by omega), by decide, by decide, fun x G x0 x1 f q => ?_⟩
      have z4 := z3.dips f q
      obtain ⟨wd, ew, hw⟩ := three_at (a := 2) (b := far) (c := 1 + far / 5) x0 x1
      walk_at "ev"
      refine r_at ew ?_
      walk_at "ev"
      refine ⟨ls, j, wd, n + 2 * ((1 + v).toNat - i) - 2, rfl, z4.jar.le (by omega), by omega, by omega, fun x G2 a0 a1 f2 q2 => ?_⟩
      exact kR _ _ ⟨by omega, by omega⟩ (((z4.dips f2 q2).sub (.cons _ (List.Sublist.refl _))).le (by omega))
    exact k dr ns H2 (z2.fresh (2, dr, _) (.head _)) z2.fr z2.jar (z2.get (.head _)) ⟨by omega, by omega⟩ pp
def sp__law_buffer (K : PySem.W.Frag) : Sp := fun vs H Q _ => ∃ (a : Addr) (ns : List Int) (R : Int), vs = [.ref a, .int R] ∧ H a = some (.lst (ns.map V.int)) ∧ ∀ H', Fr [] H H' → Q (.int (bF ns R)) H'
theorem k__law_buffer (T : Tx fa fn K mg base) : Fk P w K mg base "_law_buffer" ["sizes", "pace"] 1 (sp__law_buffer K) s__law_buffer "_law_buffer" := by
  refine T.fk 14 29 (q := "_law_buffer") (st := s__law_buffer) sc__law_buffer (fun _ _ _ _ _ _ us hl => match us, hl with | [_, _], _ => rfl) (fun vs H Q E h => ?_) (fun cdv A outer s H vs Q E hr h => ?_)
  · obtain ⟨a, ns, R, rfl, _⟩ := h
    rfl
  · obtain ⟨a, ns, R, rfl, ha, k⟩ := h
    refine ⟨_, (pss_cons (ps_asg (pe_tup (pa_cons pe_int (pa_cons pe_int pa_nil))) (pg_tup rfl (pgs_cons (pg_name (i := 2) sc__law_buffer.nd rfl (by first | exact Or.inl rfl | exact Or.inr rfl)) (pgs_cons (pg_name (i := 3) sc__law_buffer.nd rfl (by first | exact Or.inl rfl | exact Or.inr rfl)) pgs_nil))))
      (pss_cons (ps_for PassesOwn.never rfl (pi_list (pv 0)) (pg_name (i := 4) sc__law_buffer.nd rfl (by first | exact Or.inl rfl | exact Or.inr rfl)) (pss_cons (ps_set (i := 3) sc__law_buffer.nd rfl (by first | exact Or.inl rfl | exact Or.inr rfl) (pe_op op_add (pv 4) (pe_callB (call_max2 rfl) (by rfl) (T.fr 13) (by decide +kernel) (pa_cons pe_int (pa_cons (pe_op op_sub (pv 3) (pv 1)) pa_nil)))))
      (pss_one (ps_set (i := 2) sc__law_buffer.nd rfl (by first | exact Or.inl rfl | exact Or.inr rfl) (pe_callB (call_max2 rfl) (by rfl) (T.fr 13) (by decide +kernel) (pa_cons (pv 2) (pa_cons (pv 3) pa_nil)))))))
      (pss_one (ps_ret (pv 2))))), ?_⟩
    walk_at "ev0"
    intro t kt
    have ft : Fr [] H (upd H t (.tup [.int 0, .int 0])) := (Fr.refl _).new kt
    have ha1 := ft _ _ nin ha
    walk_at "ev"
    refine for_it (walk_list (xs := ns.map V.int)) (fun f σ H' => ∃ u4 : Option V, σ = [some (.ref a), some (.int R), some (.int (mF R ns f)), some (.int (hF R ns f)), u4] ∧ H' = upd H t (.tup [.int 0, .int 0])) ⟨none, rfl, rfl⟩ (fun i σ H' _ ⟨_, _, e⟩ => by rw [e]; exact SqL.of ha1) (fun i x σ H1 H2 hi p y => ?_) (fun σ H1 p => ?_)
    · obtain ⟨u4, rfl, rfl⟩ := p
      obtain ⟨rfl, hx⟩ := y
      obtain rfl := nth_at hx
      have e : nth ns i + max 0 (hF R ns i - R) = hF R ns (i + 1) := Int.add_comm _ _
      walk_at "ev"
      rw [ifmax, ifmax, e]
      exact ⟨_, rfl, rfl⟩
    · obtain ⟨u4, rfl, rfl⟩ := p
      rw [List.length_map]
      walk_at "ev"
      exact k _ ft
end
set_option Elab.async false
set_option linter.all false
set_option maxRecDepth 100000
set_option maxHeartbeats 4000000
set_option exponentiation.threshold 3000
theorem cut_upto {ns : List Int} {i : Int} (h0 : 0 ≤ i) (h1 : i ≤ ns.length) : cutV (ns.map V.int) none (some i) = (ns.take i.toNat).map V.int := by
  obtain ⟨a, rfl⟩ := Int.eq_ofNat_of_zero_le h0
  unfold cutV
  rw [HT.sIx_nat, HT.sIx_none, List.length_map, Nat.min_eq_left (by omega), List.map_take]
  rfl
theorem cut_fromV {xs : List V} {k : Nat} (h : k ≤ xs.length) : cutV xs (some (k : Int)) none = xs.drop k := by
  unfold cutV
  rw [HT.sIx_none, HT.sIx_nat, Nat.min_eq_left h, List.take_of_length_le (by rw [List.length_drop]; exact Nat.le_refl _)]
theorem nth_drop {ns : List Int} {k i : Nat} : nth (ns.drop k) i = nth ns (k + i) := by
  unfold nth
  rw [List.getD_eq_getElem?_getD, List.getD_eq_getElem?_getD, List.getElem?_drop]
theorem nth_take {ns : List Int} {k i : Nat} (h : i < k) : nth (ns.take k) i = nth ns i := by
  unfold nth
  rw [List.getD_eq_getElem?_getD, List.getD_eq_getElem?_getD, List.getElem?_take_of_lt h]
def pcV (q : Pc) : List V := [.int q.lo, optV q.hi, .int q.v, .int q.f]
section
variable {P : Program} {w : World} {K : PySem.W.Frag} {mg : Str → Option Value} {base : Heap}
def sp__greatest_sums (K : PySem.W.Frag) : Sp := fun vs H Q _ => ∃ (a : Addr) (ns : List Int), vs = [.ref a] ∧ H a = some (.lst (ns.map V.int)) ∧ (1 ≤ ns.length ∧ ns.length ≤ 200) ∧ ∀ p H', H p = none → Fr [] H H' → H' p = some (.lst ((gL ns).map V.int)) → Q (.ref p) H'
theorem k__greatest_sums (T : Tx fa fn K mg base) : Fk P w K mg base "_greatest_sums" ["needs"] 2 (sp__greatest_sums K) s__greatest_sums "_greatest_sums" := by
  refine T.fk 6 17 (q := "_greatest_sums") (st := s__greatest_sums) sc__greatest_sums (fun _ _ _ _ _ _ us hl => match us, hl with | [_], _ => rfl) (fun vs H Q E h => ?_) (fun cdv A outer s H vs Q E hr h => ?_)
  · obtain ⟨a, ns, rfl, _⟩ := h
    rfl
  · obtain ⟨a, ns, rfl, ha, ⟨n1, n2⟩, k⟩ := h
    have sl : (sums0 ns).length = ns.length + 1 := sumsTo_len
    refine ⟨_, (pss_cons (ps_set (i := 1) sc__greatest_sums.nd rfl (by first | exact Or.inl rfl | exact Or.inr rfl) (pe_f (k_sums_from_zero T) hr (pa_cons (pv 0) pa_nil)))
      (pss_one (ps_ret (pe_lc (own := [("many", 4)]) (tt := tYes) (te := (tCB (rMax K) (tCons (tLc (iZip K (tCons (tVar 1) (tCons (tSl (rSlL K) (tVar 1) (tPart (tVar 4)) tNoPart) tNil))) (gTup K 2 (gCons (gName 2) (gCons (gName 3) gNil))) tYes (tOp (rI0 fun i j => .int (i - j)) (tVar 3) (tVar 2)) [2, 3]) tNil))) rfl sc__greatest_sums.nd (pi_range2 (by rfl) (T.fr 15) (pa_cons pe_int (pa_cons (pe_callB call_len_seq (by rfl) (T.fr 5) (by decide +kernel) (pa_cons (pv 1) pa_nil)) pa_nil))) (blkOk_by (N := ["needs", "sums", "before", "after", "many"]) (sc := defScope s__greatest_sums) (by decide +kernel)) (fun _ _ _ _ _ => (pg_name (i := 4) sc__greatest_sums.nd rfl (by first | exact Or.inl rfl | exact Or.inr rfl))) (fun _ _ _ _ _ => pts_nil) (fun _ _ _ _ _ => (pe_callB (cr_max rfl) (by rfl) (T.fr 13) (by decide +kernel) (pa_cons (pe_lc (own := [("before", 2), ("after", 3)]) (tt := tYes) (g := (gTup K 2 (gCons (gName 2) (gCons (gName 3) gNil)))) (te := (tOp (rI0 fun i j => .int (i - j)) (tVar 3) (tVar 2))) rfl sc__greatest_sums.nd (pi_zip (by rfl) (T.fr 16) (pa_cons (pv 1) (pa_cons (pe_slice sl_list (pv 1) (po_some (pv 4)) po_none) pa_nil))) (blkRel (blkOk_by (N := ["needs", "sums", "before", "after", "many"]) (sc := ({ kind := PySem.ScopeKind.function, names := [ (PySem.Str.ofString ".0", PySem.NameKind.local), (PySem.Str.ofString "many", PySem.NameKind.local), (PySem.Str.ofString "max", PySem.NameKind.globalImplicit), (PySem.Str.ofString "zip", PySem.NameKind.globalImplicit), (PySem.Str.ofString "sums", PySem.NameKind.free)], isGenerator := false, isCoroutine := false, more := [] : PySem.Scope })) (by decide +kernel))) (fun _ _ _ _ _ => (pg_tup rfl (pgs_cons (pg_name (i := 2) sc__greatest_sums.nd rfl (by first | exact Or.inl rfl | exact Or.inr rfl)) (pgs_cons (pg_name (i := 3) sc__greatest_sums.nd rfl (by first | exact Or.inl rfl | exact Or.inr rfl)) pgs_nil)))) (fun _ _ _ _ _ => pts_nil) (fun _ _ _ _ _ => (pe_op op_sub (pv 3) (pv 2)))) pa_nil))))))), ?_⟩
    walk_at "ev0"
    refine ⟨a, ns, rfl, ha, by omega, fun p H1 hp f1 g1 => ?_⟩
    walk_at "ev"
    have lm : ((sums0 ns).map V.int).length = ns.length + 1 := by rw [List.length_map, sl]
    rw [lm]
    refine ⟨by omega, ?_⟩
    rw [show (((ns.length + 1 : Nat) : Int) - 1).toNat = ns.length by omega]
    refine lc_pure (walk_range (lo := 1) (n := ns.length)) (fun i => .int (gW ns i)) (by omega) (fun _ _ => trivial) (fun i H' x H'' y => by rw [y.1]; exact Fr.refl _) (fun i x H' H'' R hi e y kR => ?_) (fun D H3 hD e hD' => ?_)
    · obtain ⟨rfl, rfl⟩ := y
      have gp := e _ _ nin g1
      walk_at "ev"
      refine ⟨rfl, ?_⟩
      walk_at "ev"
      rw [show (1 : Int) + (i : Int) = ((i + 1 : Nat) : Int) by omega, cut_fromV (k := i + 1) (by omega), ← List.map_drop]
      intro t kt
      have gp2 : (upd H'' t (.lst (((sums0 ns).drop (i + 1)).map V.int))) p = some (.lst ((sums0 ns).map V.int)) := ((Fr.refl _).new kt) _ _ nin gp
      have gt : (upd H'' t (.lst (((sums0 ns).drop (i + 1)).map V.int))) t = some (.lst (((sums0 ns).drop (i + 1)).map V.int)) := upd_same
      have f5 : Fr [] H'' (upd H'' t (.lst (((sums0 ns).drop (i + 1)).map V.int))) := (Fr.refl _).new kt
      generalize upd H'' t (.lst (((sums0 ns).drop (i + 1)).map V.int)) = H5 at gp2 gt f5 ⊢
      walk_at "ev"
      refine lc_pure (walk_zip (xs := (sums0 ns).map V.int) (ys := ((sums0 ns).drop (i + 1)).map V.int) (n := ns.length - i) (by rw [List.length_map, List.length_map, List.length_drop, sl]; omega)) (fun j => .int (wnd ns j (j + i + 1))) (by omega) (fun H' e => ⟨e.sql (SqL.of gp2) nin, e.sql (SqL.of gt) nin⟩)
        (fun i H' x H'' y => by obtain ⟨T, x1, x2, _, h0, rfl, _⟩ := y; exact (Fr.refl _).new h0) (fun j x H6 H7 R2 hj e6 y kR2 => ?_) (fun D2 H6 hD2 e6 hD2' => ?_)
      · obtain ⟨T, x1, x2, rfl, h0, rfl, g3, g4⟩ := y
        obtain rfl := nth_at g3
        obtain rfl := nth_at g4
        have ew : nth ((sums0 ns).drop (i + 1)) j - nth (sums0 ns) j = wnd ns j (j + i + 1) := by
          rw [nth_drop, nth_sumsTo (by omega), nth_sumsTo (by omega), show i + 1 + j = j + i + 1 by omega]
          rfl
        rw [← ew] at kR2
        walk_at "ev"
        refine ⟨rfl, ?_⟩
        walk_at "ev"
        exact kR2 _ (Fr.refl _)
      have hD3 : H6 D2 = some (.lst ((wl ns i).map V.int)) := by
        unfold wl
        rw [List.map_map]
        exact hD2'
      obtain ⟨m1, m2⟩ := gW_is (ns := ns) (m := i) hi
      walk_at "ev"
      refine r_maxM (SqL.of hD3) m1 m2 ?_
      exact kR _ (f5.trans e6)
    have hD3 : H3 D = some (.lst ((gL ns).map V.int)) := by
      unfold gL
      rw [List.map_map]
      exact hD'
    refine k D H3 ?_ (f1.trans e) hD3
    cases z : H D with
    | none => rfl
    | some o =>
      have := f1 _ _ nin z
      rw [hD] at this
      cases this
/-- what holds while pieces are told -/
def PcI (H : Hp) (a wd pc : Addr) (ns : List Int) (mm : Nat) (σ : L2.St) (H' : Hp) : Prop := ∃ (done : List Pc) (ts : List Addr) (lo : Option Int) (u4 u5 u6 u7 u8 u9 : Option V),
  σ = [some (.ref a), some (.ref wd), some (.ref pc), some (optV lo), u4, u5, u6, u7, u8, u9] ∧ Z H H' [(2, pc, .lst (ts.map V.ref)), (2, wd, .lst ((gL ns).map V.int))] ∧ TL H' ts (done.map pcV) ∧ (∀ t ∈ ts, H t = none) ∧ done.length + mm ≤ 202 ∧
  match lo with
  | none => done = fullP ns
  | some l => done ++ pcs ns (gL ns) mm l = fullP ns ∧ (0 ≤ l ∧ l ≤ ns.sum) ∧ fallF ns l < mm
def sp_buffer_pieces (K : PySem.W.Frag) : Sp := fun vs H Q _ => ∃ (a : Addr) (ns : List Int), vs = [.ref a] ∧ H a = some (.lst (ns.map V.int)) ∧ (1 ≤ ns.length ∧ ns.length ≤ 200) ∧ (∀ x ∈ ns, 0 ≤ x) ∧ ns.sum ≤ 2 ^ 200 ∧
  ∀ p ts H', H p = none → Fr [] H H' → H' p = some (.lst (ts.map V.ref)) → TL H' ts ((fullP ns).map pcV) → (∀ t ∈ ts, H t = none) → Q (.ref p) H'
theorem k_buffer_pieces (T : Tx fa fn K mg base) : Fk P w K mg base "buffer_pieces" ["needs"] 4 (sp_buffer_pieces K) s_buffer_pieces "buffer_pieces" := by
  refine T.fk 8 20 (q := "buffer_pieces") (st := s_buffer_pieces) sc_buffer_pieces (fun _ _ _ _ _ _ us hl => match us, hl with | [_], _ => rfl) (fun vs H Q E h => ?_) (fun cdv A outer s H vs Q E hr h => ?_)
  · obtain ⟨a, ns, rfl, _⟩ := h
    rfl
  · obtain ⟨a, ns, rfl, ha, ⟨n1, n2⟩, pos, big, k⟩ := h
    have iw := gL_is ns
    have n0 : 0 < ns.length := n1
    have s0 := (take_le pos ns.length).1
    rw [List.take_length] at s0
    have p200 : (2 : Int) ^ 200 < 2 ^ 201 := by decide +kernel
    refine ⟨_, (pss_cons (ps_expr (pe_f (k__check_needs T) hr (pa_cons (pv 0) pa_nil)))
      (pss_cons (ps_set (i := 1) sc_buffer_pieces.nd rfl (by first | exact Or.inl rfl | exact Or.inr rfl) (pe_f (k__greatest_sums T) hr (pa_cons (pv 0) pa_nil)))
      (pss_cons (ps_asg (pe_tup (pa_cons (pe_lst pa_nil) (pa_cons pe_int pa_nil))) (pg_tup rfl (pgs_cons (pg_name (i := 2) sc_buffer_pieces.nd rfl (by first | exact Or.inl rfl | exact Or.inr rfl)) (pgs_cons (pg_name (i := 3) sc_buffer_pieces.nd rfl (by first | exact Or.inl rfl | exact Or.inr rfl)) pgs_nil))))
      (pss_cons (ps_while PassesOwn.never (pt_cmpR op_notN (pv 3) pe_non (nomark _)) (pss_cons (ps_set (i := 4) sc_buffer_pieces.nd rfl (by first | exact Or.inl rfl | exact Or.inr rfl) (pe_f (k__buffer_at T) hr (pa_cons (pv 0) (pa_cons (pv 3) pa_nil))))
      (pss_cons (ps_set (i := 5) sc_buffer_pieces.nd rfl (by first | exact Or.inl rfl | exact Or.inr rfl) (pe_op op_sub (pv 4) (pe_f (k__buffer_at T) hr (pa_cons (pv 0) (pa_cons (pe_op op_add (pv 3) pe_int) pa_nil)))))
      (pss_cons (ps_setLc (i := 6) (own := [("steps", 8), ("amount", 9)]) (tt := tYes) (g := (gTup K 2 (gCons (gName 8) (gCons (gName 9) gNil)))) (te := (tOp (rI CDivW fun i j => .int (i / j)) (tOp (rI0 fun i j => .int (i - j)) (tOp (rI0 fun i j => .int (i + j)) (tVar 4) (tOp (rI CMulW fun i j => .int (i * j)) (tVar 5) (tVar 3))) (tVar 9)) (tOp (rI0 fun i j => .int (i - j)) (tVar 5) (tVar 8)))) rfl sc_buffer_pieces.nd rfl rfl (sw_true rfl rfl rfl (by decide +kernel)) (pi_enum (by rfl) (T.fr 19) (pa_cons (pe_slice sl_list (pv 1) po_none (po_some (pv 5))) pa_nil)) (blkOk_by (N := ["needs", "widest", "pieces", "low", "value", "fall", "ends", "high", "steps", "amount"]) (sc := defScope s_buffer_pieces) (by decide +kernel)) (fun _ _ _ _ _ => (pg_tup rfl (pgs_cons (pg_name (i := 8) sc_buffer_pieces.nd rfl (by first | exact Or.inl rfl | exact Or.inr rfl)) (pgs_cons (pg_name (i := 9) sc_buffer_pieces.nd rfl (by first | exact Or.inl rfl | exact Or.inr rfl)) pgs_nil)))) (fun _ _ _ _ _ => pts_nil) (fun _ _ _ _ _ => (pe_op op_fdivW (pe_op op_sub (pe_op op_add (pv 4) (pe_op op_mulW (pv 5) (pv 3))) (pv 9)) (pe_op op_sub (pv 5) (pv 8)))))
      (pss_cons (ps_set (i := 7) sc_buffer_pieces.nd rfl (by first | exact Or.inl rfl | exact Or.inr rfl) (pe_callBK (cr_minD rfl (hu65 hr)) (by rfl) (T.fr 10) (by decide +kernel) (pa_cons (pv 6) pa_nil) (pk_cons pe_non pk_nil)))
      (pss_cons (ps_expr (pe_bm PySem.F.plainAttrs_list PySem.F.slot_list_append PySem.F.type_list_append mt_append (pv 2) (pa_cons (pe_tup (pa_cons (pv 3) (pa_cons (pv 7) (pa_cons (pv 4) (pa_cons (pv 5) pa_nil))))) pa_nil)))
      (pss_one (ps_set (i := 3) sc_buffer_pieces.nd rfl (by first | exact Or.inl rfl | exact Or.inr rfl) (pv 7)))))))))
      (pss_one (ps_ret (pv 2))))))), ?_⟩
    walk_at "ev0"
    refine ⟨a, ns, rfl, ha, ⟨n1, n2⟩, pos, fun H1 f1 => ?_⟩
    have z1 := (Z.start0 H).same f1
    walk_at "ev"
    refine ⟨a, ns, rfl, f1 _ _ nin ha, ⟨n1, n2⟩, fun wd H2 hwd f2 gwd => ?_⟩
    have z2 := z1.call0 f2 (new1 hwd gwd)
    walk_at "ev"
    intro pc kpc
    have z3 := z2.alloc (.lst []) kpc
    walk_at "ev"
    intro tp ktp
    have z4 := (z3.alloc (.tup [.ref pc, .int 0]) ktp)
    have z5 := z4.sub (E' := [(2, pc, .lst []), (2, wd, .lst ((gL ns).map V.int))]) (.cons _ (List.Sublist.refl _)) (by simp)
    walk_at "ev"
    have f0 := fall_pos iw pos (R := 0) (Int.le_refl _) n0
    have f9 := fall_le iw pos (R := 0) (Int.le_refl _) n0
    refine ⟨PcI H a wd pc ns, ⟨201, [], [], some 0, _, _, _, _, _, _, rfl, z5, TL.nil _, (fun _ m => nomatch m), by decide, rfl, ⟨Int.le_refl _, s0⟩, by omega⟩, fun mm σ H' pv => ?_⟩
    obtain ⟨done, ts, lo, u4, u5, u6, u7, u8, u9, rfl, z, tl, tn, dl, pv⟩ := pv
    clear z1 z2 z3 z4 z5
    walk_at "ev"
    refine ⟨rfl, ?_⟩
    have hpc0 : H pc = none := z.fresh (2, pc, _) (.head _) rfl
    cases lo with
    | none =>
      have pv : done = fullP ns := pv
      subst pv
      refine ⟨false, by simp [optV], ?_⟩
      refine iteF ?_
      walk_at "ev"
      exact k pc ts H' hpc0 (z.fr0 (by simp)) (z.get (.head _)) tl tn
    | some l =>
      obtain ⟨pe, ⟨l0, l9⟩, fl⟩ : done ++ pcs ns (gL ns) mm l = fullP ns ∧ (0 ≤ l ∧ l ≤ ns.sum) ∧ fallF ns l < mm := pv
      have g0 := fall_pos iw pos (R := l) l0 n0
      have g9 := fall_le iw pos (R := l) l0 n0
      obtain ⟨m1, rfl⟩ : ∃ m1, mm = m1 + 1 := ⟨mm - 1, by omega⟩
      refine ⟨true, by simp [optV], ?_⟩
      refine iteT ?_
      refine ⟨fun σ' H'' => ∃ m', m' < m1 + 1 ∧ PcI H a wd pc ns m' σ' H'', fun _ _ h => h, ?_⟩
      have ha1 : H' a = some (.lst (ns.map V.int)) := z.keep ha (by simp)
      show tSeq _ _ _ [some (.ref a), some (.ref wd), some (.ref pc), some (.int l), u4, u5, u6, u7, u8, u9] H'
      walk_at "ev"
      refine ⟨a, ns, l, rfl, ha1, fun H3 f3 => ?_⟩
      walk_at "ev"
      refine ⟨a, ns, l + 1, rfl, f3 _ _ nin ha1, fun H4 f4 => ?_⟩
      have f34 := f3.trans f4
      have y1 := z.same f34
      walk_at "ev"
      rw [show bF ns l - bF ns (l + 1) = fallF ns l from rfl]
      have lgW : (gL ns).length = ns.length := iw.len
      rw [cut_upto (ns := gL ns) g0 (by omega)]
      intro sp ksp
      have y2 := y1.alloc (.lst (((gL ns).take (fallF ns l).toNat).map V.int)) ksp
      have lt0 : (((gL ns).take (fallF ns l).toNat).map V.int).length = (fallF ns l).toNat := by rw [List.length_map, List.length_take, lgW]; omega
      walk_at "ev"
      refine lc_pure (walk_enum (xs := ((gL ns).take (fallF ns l).toNat).map V.int)) (fun i => .int (endF ns (gL ns) l i)) (by omega) (fun H' e => e.sql (SqL.of (y2.get (.head _))) nin) (fun i H' x H'' y => by obtain ⟨T, x1, x2, _, h0, rfl, _⟩ := y; exact (Fr.refl _).new h0) (fun i x H5 H6 R2 hi e y kR => ?_) (fun D H5 hD e hD' => ?_)
      · obtain ⟨T, x1, x2, rfl, h0, rfl, g1, g2⟩ := y
        obtain rfl := Option.some.inj g1
        obtain rfl := nth_at g2
        rw [lt0] at hi
        rw [nth_take hi] at kR ⊢
        unfold endF at kR
        walk_at "ev"
        refine ⟨rfl, ?_⟩
        walk_at "ev"
        refine r_I (wide_mul (a := 10) (b := 202) (natAbs_lt (by omega) (by omega)) (natAbs_lt (by omega) (by omega)) (by decide) (by decide) (by decide)) ?_
        walk_at "ev"
        refine r_I (wide_div (b := 10) (by omega) (natAbs_lt (by omega) (by omega)) (by decide) (by decide)) ?_
        walk_at "ev"
        exact kR _ (Fr.refl _)
      rw [lt0] at hD'
      have hD3 : H5 D = some (.lst ((endsF ns (gL ns) l).map V.int)) := by
        unfold endsF
        rw [List.map_map]
        exact hD'
      have y3 := y2.call0 e (new1 hD hD3)
      have fin : ∀ (D9 : Ends), (∀ σ' H'', (∃ m', m' < m1 + 1 ∧ PcI H a wd pc ns m' σ' H'') → D9.nx σ' H'') → ∀ (hi : Option Int), minO (endsF ns (gL ns) l) = hi → ∀ (v8 v9 : Option V), tSeq (tDrop (tBM K "list" rAppend (tVar 2) (tCons (tTup (tCons (tVar 3) (tCons (tVar 7) (tCons (tVar 4) (tCons (tVar 5) tNil))))) tNil))) (tAsg (tVar 7) (gName 3)) D9
          [some (.ref a), some (.ref wd), some (.ref pc), some (.int l), some (.int (bF ns l)), some (.int (fallF ns l)), some (.ref D), some (optV hi), v8, v9] H5 := fun D9 hD9 hi hm v8 v9 => by
        have y4 := y3.sub (E' := [(2, pc, .lst (ts.map V.ref)), (2, wd, .lst ((gL ns).map V.int))]) (.cons _ (.cons _ (List.Sublist.refl _))) (by simp)
        have tl3 : TL H5 ts (done.map pcV) := tl.fr fun t o h => e _ _ nin (((Fr.refl H4).new ksp) _ _ nin (f34 _ _ nin h))
        walk_at "ev"
        intro tq ktq
        have y5 := y4.alloc (.tup [.int l, optV hi, .int (bF ns l), .int (fallF ns l)]) ktq
        have tl4 := (tl3.more (o := .tup [.int l, optV hi, .int (bF ns l), .int (fallF ns l)]) ktq).add (v := pcV ⟨l, hi, bF ns l, fallF ns l⟩) upd_same
        have tln : ts.length = done.length := by
          have := tl.1
          rw [List.length_map] at this
          exact this
        have len1 := pcs_len (ns := ns) (W := gL ns) (m1 + 1) l
        have y6 := y5.set 1 (.lst (ts.map V.ref ++ [.ref tq])) rfl (.inr rfl)
        walk_at "ev"
        refine hD9 _ _ ?_
        have hpq : (upd H5 tq (.tup [.int l, optV hi, .int (bF ns l), .int (fallF ns l)])) pc = some (.lst (ts.map V.ref)) := y5.get (.tail _ (.head _))
        have tl5 := tl4.put (o := .lst (ts.map V.ref ++ [.ref tq])) hpq
        have y7 := y6.sub (E' := [(2, pc, .lst (ts.map V.ref ++ [.ref tq])), (2, wd, .lst ((gL ns).map V.int))]) (.cons _ (List.Sublist.refl _)) (by simp)
        have hq0 : H tq = none := y5.fresh (2, tq, _) (.head _) rfl
        have hts : ∀ t ∈ ts ++ [tq], H t = none := fun t m => by
          rcases List.mem_append.mp m with m | m
          · exact tn t m
          · rw [List.mem_singleton.mp m]
            exact hq0
        have em : ts.map V.ref ++ [V.ref tq] = (ts ++ [tq]).map V.ref := by rw [List.map_append]; rfl
        rw [em] at y7 ⊢
        have pe2 : pcs ns (gL ns) (m1 + 1) l = match minO (endsF ns (gL ns) l) with | none => [(⟨l, none, bF ns l, fallF ns l⟩ : Pc)] | some h => ⟨l, some h, bF ns l, fallF ns l⟩ :: pcs ns (gL ns) m1 h := rfl
        rw [hm] at pe2
        have dm : done.map pcV ++ [pcV ⟨l, hi, bF ns l, fallF ns l⟩] = (done ++ [(⟨l, hi, bF ns l, fallF ns l⟩ : Pc)]).map pcV := by rw [List.map_append]; rfl
        rw [em, dm] at tl5
        refine ⟨m1, Nat.lt_succ_self _, done ++ [(⟨l, hi, bF ns l, fallF ns l⟩ : Pc)], ts ++ [tq], hi, _, _, _, _, _, _, rfl, y7, tl5, hts, by rw [List.length_append, List.length_singleton]; omega, ?_⟩
        cases hi with
        | none =>
          rw [pe2] at pe
          exact pe
        | some h =>
          obtain ⟨a1, a2⟩ := minO_some hm
          have b1 := end_gt iw l0 a1 g9
          have b2 := end_sum iw pos l0 n0 a1 a2
          have b3 := end_next iw pos l0 n0 a1 a2
          rw [pe2] at pe
          exact ⟨by rw [← pe, List.append_assoc]; rfl, ⟨by omega, b2⟩, by omega⟩
      walk_at "ev"
      refine r_minD (SqL.of hD3) (fun e0 => ?_) fun m h1 h2 => ?_
      · refine r_name ?_
        refine fin _ (fun _ _ h => ?_) none (minO_none.mpr e0) _ _
        exact h
      · refine r_name ?_
        refine fin _ (fun _ _ h => ?_) (some m) (minO_is h1 h2) _ _
        exact h
end
set_option Elab.async false
set_option linter.all false
set_option maxRecDepth 100000
set_option maxHeartbeats 4000000
set_option exponentiation.threshold 3000
def inP (R : Int) (q : Pc) : Bool := decide (q.lo ≤ R) && (match q.hi with | none => true | some h => decide (R ≤ h))
def valP (R : Int) (q : Pc) : Int := q.v - q.f * (R - q.lo)
theorem inP_iff {R : Int} {q : Pc} : inP R q = true ↔ q.lo ≤ R ∧ ∀ h, q.hi = some h → R ≤ h := by
  unfold inP
  cases e : q.hi with
  | none => simp
  | some h => simp
theorem take_more {α : Type} {l : List α} {i : Nat} {q : α} (h : l[i]? = some q) : l.take (i + 1) = l.take i ++ [q] := by
  rw [List.take_succ, h]
  rfl
theorem TL.item {H : Hp} {ts : List Addr} {ps : List Pc} (tl : TL H ts (ps.map pcV)) {i : Nat} {x : V} (h : (ts.map V.ref)[i]? = some x) : ∃ t q, x = .ref t ∧ ts[i]? = some t ∧ ps[i]? = some q ∧ H t = some (.tup (pcV q)) := by
  rw [List.getElem?_map] at h
  obtain ⟨t, e, rfl⟩ := Option.map_eq_some_iff.mp h
  have l1 := tl.1
  rw [List.length_map] at l1
  have hi : i < ps.length := by rw [← l1]; exact (List.getElem?_eq_some_iff.mp e).1
  refine ⟨t, ps[i], rfl, e, List.getElem?_eq_getElem hi, ?_⟩
  rw [tl.2 i t e, List.getD_eq_getElem?_getD, List.getElem?_map, List.getElem?_eq_getElem hi]
  rfl
section
variable {P : Program} {w : World} {K : PySem.W.Frag} {mg : Str → Option Value} {base : Heap}
def sp__law_by_pieces (K : PySem.W.Frag) : Sp := fun vs H Q _ => ∃ (a : Addr) (ts : List Addr) (ns : List Int) (ps : List Pc) (R : Int), vs = [.ref a, .int R] ∧ H a = some (.lst (ts.map V.ref)) ∧ TL H ts (ps.map pcV) ∧ PcsOk ns ps ∧ (ns.length ≤ 200 ∧ ns.sum ≤ 2 ^ 200) ∧ (0 ≤ R ∧ R ≤ 2 ^ 202) ∧
  ∀ p (xs : List Int) H', H p = none → Fr [] H H' → H' p = some (.lst (xs.map V.int)) → xs ≠ [] → (∀ x ∈ xs, x = bF ns R) → xs.length ≤ 201 → Q (.ref p) H'
theorem k__law_by_pieces (T : Tx fa fn K mg base) : Fk P w K mg base "_law_by_pieces" ["pieces", "pace"] 1 (sp__law_by_pieces K) s__law_by_pieces "_law_by_pieces" := by
  refine T.fk 15 30 (q := "_law_by_pieces") (st := s__law_by_pieces) sc__law_by_pieces (fun _ _ _ _ _ _ us hl => match us, hl with | [_, _], _ => rfl) (fun vs H Q E h => ?_) (fun cdv A outer s H vs Q E hr h => ?_)
  · obtain ⟨a, ts, ns, ps, R, rfl, _⟩ := h
    rfl
  · obtain ⟨a, ts, ns, ps, R, rfl, ha, tl, ok, ⟨n9, big⟩, ⟨r0, r9⟩, k⟩ := h
    have l1 : ts.length = ps.length := by
      have := tl.1
      rw [List.length_map] at this
      exact this
    have len := ok.len
    have p200 : (2 : Int) ^ 200 < 2 ^ 202 := by decide +kernel
    have p202 : (2 : Int) ^ 202 * 2 < 2 ^ 204 := by decide +kernel
    refine ⟨_, (pss_cons (ps_set (i := 2) sc__law_by_pieces.nd rfl (by first | exact Or.inl rfl | exact Or.inr rfl) (pe_lst pa_nil))
      (pss_cons (ps_for PassesOwn.never rfl (pi_list (pv 0)) (pg_tup rfl (pgs_cons (pg_name (i := 3) sc__law_by_pieces.nd rfl (by first | exact Or.inl rfl | exact Or.inr rfl)) (pgs_cons (pg_name (i := 4) sc__law_by_pieces.nd rfl (by first | exact Or.inl rfl | exact Or.inr rfl)) (pgs_cons (pg_name (i := 5) sc__law_by_pieces.nd rfl (by first | exact Or.inl rfl | exact Or.inr rfl)) (pgs_cons (pg_name (i := 6) sc__law_by_pieces.nd rfl (by first | exact Or.inl rfl | exact Or.inr rfl)) pgs_nil))))) (pss_one (ps_if (PW.pt (pw_and (pt_cmpR op_le (pv 3) (pv 1) (nomark _)) (pw_and1 (PW.pt (pw_or (pt_cmpR op_isN (pv 4) pe_non (nomark _)) (pw_or1 (pt_cmpR op_le (pv 1) (pv 4) (nomark _)))))))) (pss_one (ps_expr (pe_bm PySem.F.plainAttrs_list PySem.F.slot_list_append PySem.F.type_list_append mt_append (pv 2) (pa_cons (pe_op op_sub (pv 5) (pe_op op_mulW (pv 6) (pe_op op_sub (pv 1) (pv 3)))) pa_nil)))) pss_nil)))
      (pss_one (ps_ret (pv 2))))), ?_⟩
    walk_at "ev0"
    intro p kp
    have z1 := (Z.start0 H).alloc (.lst []) kp
    walk_at "ev"
    refine for_it (walk_list (xs := ts.map V.ref)) (fun i σ H' => ∃ u3 u4 u5 u6 : Option V, σ = [some (.ref a), some (.int R), some (.ref p), u3, u4, u5, u6] ∧ Z H H' [(2, p, .lst ((((ps.take i).filter (inP R)).map (valP R)).map V.int))]) ⟨none, none, none, none, rfl, z1⟩ (fun i σ H' _ pv => ?_) (fun i x σ H' H'' hi pv y => ?_) (fun σ H' pv => ?_)
    · obtain ⟨u3, u4, u5, u6, rfl, z⟩ := pv
      exact SqL.of (z.keep ha (by simp))
    · obtain ⟨u3, u4, u5, u6, rfl, z⟩ := pv
      obtain ⟨rfl, hx⟩ := y
      obtain ⟨t, q, rfl, e1, e2, gt0⟩ := tl.item hx
      have gtt : H'' t = some (.tup (pcV q)) := z.keep gt0 (by simp)
      have tk := take_more e2
      have qm : q ∈ ps := List.mem_of_getElem? e2
      obtain ⟨b1, b2, b3, b4, b5⟩ := ok.bd q qm
      have fl := List.length_filter_le (inP R) (ps.take i)
      rw [List.length_take] at fl
      have fl2 : (((ps.take i).filter (inP R)).map (valP R)).length ≤ 201 := by rw [List.length_map]; omega
      have no : inP R q = false → (ps.take (i + 1)).filter (inP R) = (ps.take i).filter (inP R) := fun e => by
        rw [tk, List.filter_append, List.filter_cons_of_neg (by simp [e]), List.filter_nil, List.append_nil]
      have yes : inP R q = true → (((ps.take (i + 1)).filter (inP R)).map (valP R)).map V.int = (((ps.take i).filter (inP R)).map (valP R)).map V.int ++ [V.int (valP R q)] := fun e => by
        rw [tk, List.filter_append, List.filter_cons_of_pos e, List.filter_nil, List.map_append, List.map_append]
        rfl
      obtain ⟨lo, hi', v, f⟩ := q
      have gt : H'' t = some (.tup [.int lo, optV hi', .int v, .int f]) := gtt
      dsimp only at b1 b2 b3 b4
      have cm : CMulW f (R - lo) := wide_mul (a := 10) (b := 205) (natAbs_lt (by omega) (by omega)) (natAbs_lt (by omega) (by omega)) (by decide) (by decide) (by decide)
      have ap : inP R ⟨lo, hi', v, f⟩ = true → Z H (upd H'' p (.lst ((((ps.take i).filter (inP R)).map (valP R)).map V.int ++ [V.int (v - f * (R - lo))]))) [(2, p, .lst ((((ps.take (i + 1)).filter (inP R)).map (valP R)).map V.int))] := fun e => by
        rw [yes e]
        exact z.set 0 _ rfl (.inr rfl)
      generalize eL : ((ps.take i).filter (inP R)).map (valP R) = L at z fl2 ap
      walk_at "ev"
      by_cases c : lo ≤ R
      · refine r_iteY c ?_
        cases hi' with
        | none =>
          walk_at "ev"
          refine ⟨rfl, true, by simp [optV], ?_⟩
          refine iteT ?_
          walk_at "ev"
          refine r_I cm ?_
          walk_at "ev"
          exact ⟨_, _, _, _, rfl, ap (inP_iff.mpr ⟨c, fun h e => nomatch e⟩)⟩
        | some h =>
          walk_at "ev"
          refine ⟨rfl, false, by simp [optV], ?_⟩
          refine iteF ?_
          show tTest (tOp (rI0 fun i j => V.bl (decide (i ≤ j))) (tVar 1) (tVar 4)) (((([some (V.ref a), some (V.int R), some (V.ref p), u3, u4, u5, u6].set 3 (some (V.int lo))).set 4 (some (V.int h))).set 5 (some (V.int v))).set 6 (some (V.int f))) _ _
          walk_at "ev"
          by_cases c2 : R ≤ h
          · refine r_iteY c2 ?_
            walk_at "ev"
            refine r_I cm ?_
            walk_at "ev"
            exact ⟨_, _, _, _, rfl, ap (inP_iff.mpr ⟨c, fun h2 e => by
              obtain rfl := Option.some.inj e
              exact c2⟩)⟩
          · refine r_iteZ c2 ?_
            walk_at "ev"
            rw [no (by
              cases e : inP R ⟨lo, some h, v, f⟩ with
              | false => rfl
              | true => exact absurd ((inP_iff.mp e).2 h rfl) c2), eL]
            exact ⟨_, _, _, _, rfl, z⟩
      · refine r_iteZ c ?_
        walk_at "ev"
        rw [no (by
          cases e : inP R ⟨lo, hi', v, f⟩ with
          | false => rfl
          | true => exact absurd (inP_iff.mp e).1 c), eL]
        exact ⟨_, _, _, _, rfl, z⟩
    · obtain ⟨u3, u4, u5, u6, rfl, z⟩ := pv
      rw [List.length_map, l1, List.take_length] at z
      walk_at "ev"
      refine k p _ H' kp (z.fr0 (by simp)) (z.get (.head _)) (fun e => ?_) (fun x m => ?_) ?_
      · obtain ⟨q, m, q1, q2⟩ := ok.good.some_ r0
        have m2 : q ∈ ps.filter (inP R) := List.mem_filter.mpr ⟨m, inP_iff.mpr ⟨q1, q2⟩⟩
        have m3 := List.mem_map_of_mem (f := valP R) m2
        rw [e] at m3
        cases m3
      · obtain ⟨q, m2, rfl⟩ := List.mem_map.mp m
        obtain ⟨m3, m4⟩ := List.mem_filter.mp m2
        obtain ⟨q1, q2⟩ := inP_iff.mp m4
        exact (ok.good.at_ q m3 q1 q2).symm
      · rw [List.length_map]
        exact Nat.le_trans (List.length_filter_le _ _) len
end
set_option Elab.async false
set_option linter.all false
set_option maxRecDepth 100000
set_option maxHeartbeats 4000000
set_option exponentiation.threshold 3000
def pc00 : Pc := ⟨0, none, 0, 0⟩
theorem rng_map {α β : Type} (d : α) (g : α → β) (l : List α) : (List.range l.length).map (fun i => g (l.getD i d)) = l.map g := by
  refine List.ext_getElem (by simp) fun i h1 h2 => ?_
  have hi : i < l.length := by simpa using h2
  simp [List.getD_eq_getElem?_getD, List.getElem?_eq_getElem hi]
theorem cutV_from1 (xs : List V) : cutV xs (some 1) none = xs.drop 1 := by
  unfold cutV
  rw [show some (1 : Int) = some ((1 : Nat) : Int) from rfl, HT.sIx_none, HT.sIx_nat, List.take_of_length_le (by rw [List.length_drop]; omega)]
  rcases Nat.lt_or_ge xs.length 1 with h | h
  · rw [Nat.min_eq_right (by omega)]
    have e : xs = [] := List.eq_nil_of_length_eq_zero (by omega)
    rw [e]
    rfl
  · rw [Nat.min_eq_left h]
theorem TL.drop {H : Hp} {ts : List Addr} {ps : List Pc} (tl : TL H ts (ps.map pcV)) (k : Nat) : TL H (ts.drop k) ((ps.drop k).map pcV) := by
  have l1 := tl.1
  rw [List.length_map] at l1
  refine ⟨by rw [List.length_drop, List.length_map, List.length_drop, l1], fun i t e => ?_⟩
  rw [List.getElem?_drop] at e
  rw [tl.2 _ t e, List.getD_eq_getElem?_getD, List.getD_eq_getElem?_getD, List.map_drop, List.getElem?_drop]
theorem TL.take {H : Hp} {ts : List Addr} {ps : List Pc} (tl : TL H ts (ps.map pcV)) (k : Nat) : TL H (ts.take k) ((ps.take k).map pcV) := by
  have l1 := tl.1
  rw [List.length_map] at l1
  refine ⟨by rw [List.length_take, List.length_map, List.length_take, l1], fun i t e => ?_⟩
  have hi : i < k := by
    have := (List.getElem?_eq_some_iff.mp e).1
    rw [List.length_take] at this
    omega
  rw [List.getElem?_take_of_lt hi] at e
  rw [tl.2 _ t e, List.getD_eq_getElem?_getD, List.getD_eq_getElem?_getD, List.map_take, List.getElem?_take_of_lt hi]
theorem TL.end_ {H : Hp} {ts : List Addr} {ps : List Pc} (tl : TL H ts (ps.map pcV)) {qs : List Pc} {q : Pc} (e : ps = qs ++ [q]) : ∃ t, atI (ts.map V.ref) (-1) = some (.ref t) ∧ H t = some (.tup (pcV q)) := by
  have l1 := tl.1
  rw [List.length_map, e, List.length_append, List.length_singleton] at l1
  rcases List.eq_nil_or_concat ts with rfl | ⟨us, t, rfl⟩
  · cases l1
  · rw [List.concat_eq_append] at *
    refine ⟨t, ?_, ?_⟩
    · have : ((us ++ [t]).map V.ref) = us.map V.ref ++ [V.ref t] := by rw [List.map_append]; rfl
      rw [this]
      rw [atI_last]
    · have l2 : us.length = qs.length := by simpa using l1
      rw [tl.2 us.length t (by simp), e, List.getD_eq_getElem?_getD, List.map_append, l2, List.getElem?_append_right (by simp)]
      simp
theorem TL.zero {H : Hp} {ts : List Addr} {ps : List Pc} (tl : TL H ts (ps.map pcV)) {qs : List Pc} {q : Pc} (e : ps = q :: qs) : ∃ t, atI (ts.map V.ref) 0 = some (.ref t) ∧ H t = some (.tup (pcV q)) := by
  have l1 := tl.1
  rw [List.length_map, e, List.length_cons] at l1
  cases ts with
  | nil => cases l1
  | cons t us =>
    refine ⟨t, by rw [show (0 : Int) = ((0 : Nat) : Int) from rfl]; exact atI_nat rfl, ?_⟩
    rw [tl.2 0 t rfl, e]
    rfl
section
variable {P : Program} {w : World} {K : PySem.W.Frag} {mg : Str → Option Value} {base : Heap}
/-- [one[k] for one in pieces] -/
theorem lc_part {te : TE} {vs : List Nat} {σ : L2.St} {H1 : Hp} {Q : VK} {a : Addr} {k : Nat} {ts : List Addr} {ps : List Pc} (g : Pc → V) (ha : SqL K H1 a (ts.map V.ref)) (tl : TL H1 ts (ps.map pcV)) (hn : ps.length ≤ 1000) (hw : ∀ x, wipe ((wipe σ vs).set k (some x)) vs = wipe σ vs)
    (he : ∀ t q H' (R : VK), q ∈ ps → Fr [] H1 H' → H' t = some (.tup [.int q.lo, optV q.hi, .int q.v, .int q.f]) → R (g q) H' → te ((wipe σ vs).set k (some (.ref t))) H' R)
    (hd : ∀ D H', H1 D = none → Fr [] H1 H' → H' D = some (.lst (ps.map g)) → Q (.ref D) H') : LcJ (gName k) tYes te vs σ Q (Itl K a) H1 := by
  have l1 := tl.1
  rw [List.length_map] at l1
  have e1 : (ts.map V.ref).length = ps.length := by rw [List.length_map, l1]
  refine lc_pure (walk_list (xs := ts.map V.ref)) (fun i => g (ps.getD i pc00)) (by omega) (fun H' e => e.sql ha nin) (fun i H' x H'' y => by rw [y.1]; exact Fr.refl _) (fun i x H' H'' R hi e y kR => ?_) (fun D H' hD e hD' => ?_)
  · obtain ⟨rfl, hx⟩ := y
    obtain ⟨t, q, rfl, h1, h2, h3⟩ := tl.item hx
    refine ⟨hw _, he t q _ R (List.mem_of_getElem? h2) e (e _ _ nin h3) ?_⟩
    have := kR _ (Fr.refl _)
    rw [List.getD_eq_getElem?_getD, h2] at this
    exact this
  · rw [e1, rng_map] at hD'
    exact hd D H' hD e hD'
/-- [one for one in pieces if ..] that keeps none -/
theorem lc_noP {tt : TT} {te : TE} {vs : List Nat} {σ : L2.St} {H1 : Hp} {Q : VK} {a : Addr} {k : Nat} {ts : List Addr} {ps : List Pc} (ha : SqL K H1 a (ts.map V.ref)) (tl : TL H1 ts (ps.map pcV)) (hn : ps.length ≤ 1000) (hw : ∀ x, wipe ((wipe σ vs).set k (some x)) vs = wipe σ vs)
    (he : ∀ t q H' (R : VK) (N : Hp → Prop), q ∈ ps → Fr [] H1 H' → H' t = some (.tup [.int q.lo, optV q.hi, .int q.v, .int q.f]) → N H' → tt ((wipe σ vs).set k (some (.ref t))) H' fun b H3 => if b = true then te ((wipe σ vs).set k (some (.ref t))) H3 R else N H3)
    (hd : ∀ D H', H1 D = none → Fr [] H1 H' → H' D = some (.lst []) → Q (.ref D) H') : LcJ (gName k) tt te vs σ Q (Itl K a) H1 := by
  have l1 := tl.1
  rw [List.length_map] at l1
  have e1 : (ts.map V.ref).length = ps.length := by rw [List.length_map, l1]
  refine lc_filt (walk_list (xs := ts.map V.ref)) (fun _ => .non) (fun _ => false) (by omega) (fun H' e => e.sql ha nin) (fun i H' x H'' y => by rw [y.1]; exact Fr.refl _) (fun i x H' H'' R N hi e y kR kN => ?_) (fun D H' hD e hD' => ?_)
  · obtain ⟨rfl, hx⟩ := y
    obtain ⟨t, q, rfl, h1, h2, h3⟩ := tl.item hx
    exact ⟨hw _, he t q _ R N (List.mem_of_getElem? h2) e (e _ _ nin h3) (kN rfl _ (Fr.refl _))⟩
  · exact hd D H' hD e (by rw [hD']; simp)
def sp__law_shape_right (K : PySem.W.Frag) : Sp := fun vs H Q _ => ∃ (a : Addr) (ts : List Addr) (ns : List Int) (ps : List Pc), vs = [.ref a] ∧ H a = some (.lst (ts.map V.ref)) ∧ TL H ts (ps.map pcV) ∧ PcsOk ns ps ∧ ∀ H', Fr [] H H' → Q (.bl true) H'
theorem k__law_shape_right (T : Tx fa fn K mg base) : Fk P w K mg base "_law_shape_right" ["pieces"] 1 (sp__law_shape_right K) s__law_shape_right "_law_shape_right" := by
  refine T.fk 16 33 (q := "_law_shape_right") (st := s__law_shape_right) sc__law_shape_right (fun _ _ _ _ _ _ us hl => match us, hl with | [_], _ => rfl) (fun vs H Q E h => ?_) (fun cdv A outer s H vs Q E hr h => ?_)
  · obtain ⟨a, ts, ns, ps, rfl, _⟩ := h
    rfl
  · obtain ⟨a, ts, ns, ps, rfl, ha, tl, ok, k⟩ := h
    have l1 : ts.length = ps.length := by
      have := tl.1
      rw [List.length_map] at this
      exact this
    have len := ok.len
    obtain ⟨q0, qs0, e0, e0l⟩ := ok.good.head
    obtain ⟨qs, qn, en, enh, enf, enr⟩ := ok.good.end_
    obtain ⟨t0, a0, g0⟩ := tl.zero e0
    obtain ⟨tn, an, gn⟩ := tl.end_ en
    refine ⟨_, (pss_cons (ps_setLc (i := 1) (own := [("one", 3)]) (tt := tYes) (te := (tOp (rIxT K) (tVar 3) (tC (.int 1)))) rfl sc__law_shape_right.nd rfl rfl (sw_true rfl rfl rfl (by decide +kernel)) (pi_list (pv 0)) (blkOk_by (N := ["pieces", "ends", "falls", "one"]) (sc := defScope s__law_shape_right) (by decide +kernel)) (fun _ _ _ _ _ => (pg_name (i := 3) sc__law_shape_right.nd rfl (by first | exact Or.inl rfl | exact Or.inr rfl))) (fun _ _ _ _ _ => pts_nil) (fun _ _ _ _ _ => (pe_ix ix_tup (pv 3) pe_int (fun _ _ => rfl))))
      (pss_cons (ps_if (PW.pt (pw_or (pt_cmpR op_ne (pe_ix ix_tup (pe_ix ix_list (pv 0) pe_int (fun _ _ => rfl)) pe_int (fun _ _ => rfl)) pe_int (nomark _)) (pw_or (pt_cmpR (op_neD hr.units) (pe_lc (own := [("one", 3)]) (tt := tYes) (te := (tOp (rIxT K) (tVar 3) (tC (.int 0)))) rfl sc__law_shape_right.nd (pi_list (pe_slice sl_list (pv 0) (po_some pe_int) po_none)) (blkOk_by (N := ["pieces", "ends", "falls", "one"]) (sc := defScope s__law_shape_right) (by decide +kernel)) (fun _ _ _ _ _ => (pg_name (i := 3) sc__law_shape_right.nd rfl (by first | exact Or.inl rfl | exact Or.inr rfl))) (fun _ _ _ _ _ => pts_nil) (fun _ _ _ _ _ => (pe_ix ix_tup (pv 3) pe_int (fun _ _ => rfl)))) (pe_slice sl_list (pv 1) po_none (po_some (pe_un un_neg pe_int))) (nomark _)) (pw_or (pt_cmpR op_notN (pe_ix ix_list (pv 1) (pe_un un_neg pe_int) (fun _ _ => rfl)) pe_non (nomark _)) (pw_or1 (pt_cmpR op_ne (pe_ix ix_tup (pe_ix ix_list (pv 0) (pe_un un_neg pe_int) (fun _ _ => rfl)) pe_int (fun _ _ => rfl)) pe_int (nomark _))))))) (pss_one (ps_ret pe_bl)) pss_nil)
      (pss_cons (ps_setLc (i := 2) (own := [("one", 3)]) (tt := tYes) (te := (tOp (rIxT K) (tVar 3) (tC (.int 3)))) rfl sc__law_shape_right.nd rfl rfl (sw_true rfl rfl rfl (by decide +kernel)) (pi_list (pv 0)) (blkOk_by (N := ["pieces", "ends", "falls", "one"]) (sc := defScope s__law_shape_right) (by decide +kernel)) (fun _ _ _ _ _ => (pg_name (i := 3) sc__law_shape_right.nd rfl (by first | exact Or.inl rfl | exact Or.inr rfl))) (fun _ _ _ _ _ => pts_nil) (fun _ _ _ _ _ => (pe_ix ix_tup (pv 3) pe_int (fun _ _ => rfl))))
      (pss_cons (ps_if (PW.pt (pw_or (pt_cmpR (op_neD hr.units) (pv 2) (pe_revL (pe_callB (cr_sortedSN rfl) (by rfl) (T.fr 31) (by decide +kernel) (pa_cons (pe_callTy (cr_setL rfl) (by rfl) (T.fr 32) (by decide +kernel) (pa_cons (pv 2) pa_nil)) pa_nil))) (nomark _)) (pw_or1 (pt_cmpR (op_neD hr.units) (pe_lc (own := [("one", 3)]) (tt := (tTest (tOp (rI0 fun i j => .bl (decide (j ≤ i))) (tOp (rIxT K) (tVar 3) (tC (.int 0))) (tOp (rIxT K) (tVar 3) (tC (.int 1)))))) (te := (tVar 3)) rfl sc__law_shape_right.nd (pi_list (pe_slice sl_list (pv 0) po_none (po_some (pe_un un_neg pe_int)))) (blkOk_by (N := ["pieces", "ends", "falls", "one"]) (sc := defScope s__law_shape_right) (by decide +kernel)) (fun _ _ _ _ _ => (pg_name (i := 3) sc__law_shape_right.nd rfl (by first | exact Or.inl rfl | exact Or.inr rfl))) (fun _ _ _ _ _ => (pts_one (pt_cmpR op_ge (pe_ix ix_tup (pv 3) pe_int (fun _ _ => rfl)) (pe_ix ix_tup (pv 3) pe_int (fun _ _ => rfl)) (nomark _)))) (fun _ _ _ _ _ => (pv 3))) (pe_lst pa_nil) (nomark _))))) (pss_one (ps_ret pe_bl)) pss_nil)
      (pss_one (ps_ret (pe_cmpR (op_eqD hr.units) (pe_lc (own := [("one", 3)]) (tt := (tOr (tNot (tB (tCB (rIsi K) (tCons (tVar 3) (tCons (tC (.ty "tuple")) tNil))))) (tTest (tOp rNe (tCB (rLenX K) (tCons (tVar 3) tNil)) (tC (.int 4)))))) (te := (tVar 3)) rfl sc__law_shape_right.nd (pi_list (pv 0)) (blkOk_by (N := ["pieces", "ends", "falls", "one"]) (sc := defScope s__law_shape_right) (by decide +kernel)) (fun _ _ _ _ _ => (pg_name (i := 3) sc__law_shape_right.nd rfl (by first | exact Or.inl rfl | exact Or.inr rfl))) (fun _ _ _ _ _ => (pts_one (PW.pt (pw_or (pt_not (pt_val (pe_callB call_isi (by rfl) (T.fr 0) (by decide +kernel) (pa_cons (pv 3) (pa_cons (pe_bltn (v := .ty "tuple") (u := .type "tuple") (by rfl) (T.fr 26) (by decide +kernel) rfl) pa_nil))))) (pw_or1 (pt_cmpR op_ne (pe_callB call_len_seq (by rfl) (T.fr 5) (by decide +kernel) (pa_cons (pv 3) pa_nil)) pe_int (nomark _))))))) (fun _ _ _ _ _ => (pv 3))) (pe_lst pa_nil) (nomark _)))))))), ?_⟩
    walk_at "ev0"
    refine lc_part (fun q => optV q.hi) (SqL.of ha) tl (by omega) (fun x => by rfl) (fun t q H' R qm e gt kR => ?_) (fun D1 H1 hD1 f1 gD1 => ?_)
    · walk_at "ev"
      exact kR
    have hle : (ps.map fun q => optV q.hi).length ≤ 201 := by rw [List.length_map]; exact len
    have z1 := (Z.start0 H).call0 f1 (new1 hD1 gD1)
    have ha1 := f1 _ _ nin ha
    have g01 : H1 t0 = some (.tup [.int q0.lo, optV q0.hi, .int q0.v, .int q0.f]) := f1 _ _ nin g0
    walk_at "ev"
    refine r_at a0 ?_
    rw [e0l] at g01
    walk_at "ev"
    rw [show (!decide (V.int 0 = V.int 0)) = false from by simp]
    refine iteF ?_
    walk_at "ev"
    rw [cutV_from1, ← List.map_drop]
    intro s1 ks1
    have y1 := z1.alloc (.lst ((ts.drop 1).map V.ref)) ks1
    walk_at "ev"
    refine lc_part (fun q => .int q.lo) (SqL.of (y1.get (.head _))) (TL.drop (tl.fr fun t o h => (y1.fr0 (by simp)) _ _ nin h) 1) (by rw [List.length_drop]; omega) (fun x => by rfl) (fun t q H' R qm e gt kR => ?_) (fun D2 H2 hD2 f2 gD2 => ?_)
    · walk_at "ev"
      exact kR
    have gD2' : H2 D2 = some (.lst (((ps.drop 1).map (·.lo)).map V.int)) := by
      rw [List.map_map]
      exact gD2
    have y2 := y1.call0 f2 (new1 hD2 gD2')
    walk_at "ev"
    rw [cut_last, ok.good.chain]
    intro s2 ks2
    have y3 := y2.alloc (.lst (((ps.drop 1).map (·.lo)).map V.int)) ks2
    refine r_neI (SqL.of (y3.get (.tail _ (.head _)))) (SqL.of (y3.get (.head _))) ?_
    walk_at "ev"
    rw [decide_eq_true rfl]
    refine iteF ?_
    have an2 : atI (ps.map fun q => optV q.hi) (-1) = some .non := by
      rw [en, List.map_append]
      show atI (_ ++ [optV qn.hi]) (-1) = _
      rw [atI_last, enh]
      rfl
    have y4 := y3.sub (E' := [(2, D1, .lst (ps.map fun q => optV q.hi))]) (.cons _ (.cons _ (.cons _ (List.Sublist.refl _)))) (by simp)
    generalize upd H2 s2 _ = H3 at y4 ⊢
    clear y1 y2 y3
    have ha3 := y4.keep ha (by simp)
    have gn3 : H3 tn = some (.tup [.int qn.lo, optV qn.hi, .int qn.v, .int qn.f]) := y4.keep gn (by simp)
    rw [enf] at gn3
    walk_at "ev"
    refine r_at an2 ?_
    walk_at "ev"
    refine ⟨rfl, false, by simp, ?_⟩
    refine iteF ?_
    walk_at "ev"
    refine r_at an ?_
    walk_at "ev"
    rw [show (!decide (V.int 0 = V.int 0)) = false from by simp]
    refine iteF ?_
    walk_at "ev"
    refine lc_part (fun q => .int q.f) (SqL.of ha3) (tl.fr fun t o h => (y4.fr0 (by simp)) _ _ nin h) (by omega) (fun x => by rfl) (fun t q H' R qm e gt kR => ?_) (fun D4 H4 hD4 f4 gD4 => ?_)
    · walk_at "ev"
      exact kR
    have gD4' : H4 D4 = some (.lst ((ps.map (·.f)).map V.int)) := by
      rw [List.map_map]
      exact gD4
    have hfl : (ps.map (·.f)).length ≤ 201 := by rw [List.length_map]; exact len
    have w1 := y4.call0 f4 (new1 hD4 gD4')
    walk_at "ev"
    refine r_setOf (SqL.of gD4') (by omega) fun s5 c5 hc5 k5 => ?_
    have w2 := w1.alloc (SetO w s5 (fun j => decide (j ∈ ps.map (·.f))) c5) k5
    walk_at "ev"
    refine r_sortSN (w2.get (.head _)) (by omega) fun ms s6 m1 m2 m3 k6 => ?_
    have w3 := w2.alloc (.lst (ms.map V.int)) k6
    walk_at "ev"
    rw [← List.map_reverse, fall_rev m1 ok.good.falls.1 m2]
    intro s7 k7
    have w4 := w3.alloc (.lst ((ps.map (·.f)).map V.int)) k7
    refine r_neI (SqL.of (w4.get (.tail _ (.tail _ (.tail _ (.head _)))))) (SqL.of (w4.get (.head _))) ?_
    walk_at "ev"
    rw [decide_eq_true rfl]
    refine iteF ?_
    have w5 := w4.sub (E' := [(2, D4, .lst ((ps.map (·.f)).map V.int))]) (.cons _ (.cons _ (.cons _ (.cons₂ _ (List.nil_sublist _))))) (by simp)
    generalize upd (upd _ s6 _) s7 _ = H5 at w5 ⊢
    clear w1 w2 w3 w4 y4
    have ha5 := w5.keep ha (by simp)
    walk_at "ev"
    rw [cut_last, ← List.map_dropLast, List.dropLast_eq_take]
    intro s8 k8
    have x1 := w5.alloc (.lst ((ts.take (ts.length - 1)).map V.ref)) k8
    have tl5 : TL (upd H5 s8 (.lst ((ts.take (ts.length - 1)).map V.ref))) (ts.take (ts.length - 1)) ((ps.take (ts.length - 1)).map pcV) := TL.take (tl.fr fun t o h => (x1.fr0 (by simp)) _ _ nin h) _
    have gs8 := x1.get (.head _)
    walk_at "ev"
    refine lc_noP (SqL.of gs8) tl5 (by rw [List.length_take]; omega) (fun x => by rfl) (fun t q H' R N qm e gt kN => ?_) (fun D6 H6 hD6 f6 gD6 => ?_)
    · obtain ⟨h, h1, h2⟩ := enr q (by
        have : ps.take (ts.length - 1) = qs := by
          rw [l1, en, List.length_append, List.length_singleton]
          simp
        rwa [this] at qm)
      rw [h1] at gt
      have gt' : H' t = some (.tup [.int q.lo, .int h, .int q.v, .int q.f]) := gt
      walk_at "ev"
      refine r_iteZ (by omega) ?_
      exact kN
    have x2 := x1.call0 f6 (new1 hD6 gD6)
    walk_at "ev"
    intro s9 k9
    have x3 := x2.alloc (.lst []) k9
    refine r_neI (ns := []) (ms := []) (SqL.of (x3.get (.tail _ (.head _)))) (SqL.of (x3.get (.head _))) ?_
    walk_at "ev"
    rw [decide_eq_true rfl]
    refine iteF ?_
    have x4 := x3.sub (E' := []) (List.nil_sublist _) (by simp)
    generalize upd H6 s9 (.lst []) = H7 at x4 ⊢
    clear x1 x2 x3 gs8 tl5 gD6
    have ha7 := x4.keep ha (by simp)
    walk_at "ev"
    refine lc_noP (SqL.of ha7) (tl.fr fun t o h => (x4.fr0 (by simp)) _ _ nin h) (by omega) (fun x => by rfl) (fun t q H' R N qm e gt kN => ?_) (fun D8 H8 hD8 f8 gD8 => ?_)
    · walk_at "ev"
      refine r_isi (.ty _) (.base (.tup gt)) (kit_ty (b := "tuple") (r := true) (by decide +kernel)) ?_
      walk_at "ev"
      rw [show (!decide (V.int (([V.int q.lo, optV q.hi, V.int q.v, V.int q.f].length : Nat) : Int) = V.int 4)) = false from by simp]
      exact iteF kN
    have x5 := x4.call0 f8 (new1 hD8 gD8)
    walk_at "ev"
    intro s10 k10
    have x6 := x5.alloc (.lst []) k10
    refine r_eqI (ns := []) (ms := []) (SqL.of (x6.get (.tail _ (.head _)))) (SqL.of (x6.get (.head _))) ?_
    walk_at "ev"
    rw [decide_eq_true rfl]
    exact k _ (x6.fr0 (by simp))
end
set_option Elab.async false
set_option linter.all false
set_option maxRecDepth 100000
set_option maxHeartbeats 4000000
set_option exponentiation.threshold 3000
theorem sum_most {k : Int} : ∀ {l : List Int}, (∀ x ∈ l, x ≤ k) → l.sum ≤ (l.length : Int) * k
  | [], _ => by simp
  | x :: l, h => by
    have ih := sum_most (l := l) fun y hy => h y (List.mem_cons_of_mem _ hy)
    have hx := h x List.mem_cons_self
    rw [List.sum_cons, List.length_cons, Int.natCast_add, Int.add_mul]
    simp only [Int.natCast_one, Int.one_mul]
    omega
section
variable {P : Program} {w : World} {K : PySem.W.Frag} {mg : Str → Option Value} {base : Heap}
/-- [one for one in told if one != due], all being due -/
theorem lc_due {tt : TT} {te : TE} {vs : List Nat} {σ : L2.St} {H1 : Hp} {Q : VK} {a : Addr} {k : Nat} {xs : List Int} {c : Int} (ha : SqL K H1 a (xs.map V.int)) (hc : ∀ x ∈ xs, x = c) (hn : xs.length ≤ 1000) (hw : ∀ x, wipe ((wipe σ vs).set k (some x)) vs = wipe σ vs)
    (he : ∀ H' (R : VK) (N : Hp → Prop), Fr [] H1 H' → N H' → tt ((wipe σ vs).set k (some (.int c))) H' fun b H3 => if b = true then te ((wipe σ vs).set k (some (.int c))) H3 R else N H3)
    (hd : ∀ D H', H1 D = none → Fr [] H1 H' → H' D = some (.lst (([] : List Int).map V.int)) → Q (.ref D) H') : LcJ (gName k) tt te vs σ Q (Itl K a) H1 := by
  have e1 : (xs.map V.int).length = xs.length := List.length_map _
  refine lc_filt (walk_list (xs := xs.map V.int)) (fun _ => .non) (fun _ => false) (by omega) (fun H' e => e.sql ha nin) (fun i H' x H'' y => by rw [y.1]; exact Fr.refl _) (fun i x H' H'' R N hi e y kR kN => ?_) (fun D H' hD e hD' => ?_)
  · obtain ⟨rfl, hx⟩ := y
    obtain rfl := nth_at hx
    rw [hc _ (nth_mem (ns := xs) (i := i) (by omega))]
    exact ⟨hw _, he _ R N e (kN rfl _ (Fr.refl _))⟩
  · exact hd D H' hD e (by rw [hD']; simp)
def sp__law_small_right (K : PySem.W.Frag) : Sp := fun vs H Q _ => ∃ (ls j : Addr) (n : Nat), vs = [.ref j] ∧ JarAt ls H j (n + 1000) ∧ ∀ H', Fr [j] H H' → JarAt ls H' j n → Q (.bl true) H'
theorem k__law_small_right (T : Tx fa fn K mg base) : Fk P w K mg base "_law_small_right" ["bag"] 6 (sp__law_small_right K) s__law_small_right "_law_small_right" := by
  refine T.fk 17 35 (q := "_law_small_right") (st := s__law_small_right) sc__law_small_right (fun _ _ _ _ _ _ us hl => match us, hl with | [_], _ => rfl) (fun vs H Q E h => ?_) (fun cdv A outer s H vs Q E hr h => ?_)
  · obtain ⟨ls, j, n, rfl, _⟩ := h
    rfl
  · obtain ⟨ls, j, n, rfl, hj, k⟩ := h
    have p200 : (200 : Int) * 6 < 2 ^ 11 := by decide
    have p201 : (2 : Int) ^ 11 < 2 ^ 200 := by decide +kernel
    have p202 : (2 : Int) ^ 200 < 2 ^ 202 := by decide +kernel
    refine ⟨_, (pss_cons (ps_set (i := 1) sc__law_small_right.nd rfl (by first | exact Or.inl rfl | exact Or.inr rfl) (pe_f (k__law_needs T) hr (pa_cons (pv 0) (pa_cons pe_int (pa_cons pe_int pa_nil)))))
      (pss_cons (ps_par (i := 2) (j := 3) (by rfl) sc__law_small_right.nd rfl rfl (by decide) rfl rfl (pa_cons (pe_f (k_buffer_pieces T) hr (pa_cons (pv 1) pa_nil)) (pa_cons (pe_op op_add pe_int (pe_callB (cr_sum rfl) (by rfl) (T.fr 34) (by decide +kernel) (pa_cons (pv 1) pa_nil))) pa_nil)) (by rfl))
      (pss_cons (ps_if (pt_not (pt_val (pe_f (k__law_shape_right T) hr (pa_cons (pv 2) pa_nil)))) (pss_one (ps_ret pe_bl)) pss_nil)
      (pss_cons (ps_for PassesOwn.never rfl (pi_range1 (by rfl) (T.fr 15) (pa_cons (pv 3) pa_nil)) (pg_name (i := 4) sc__law_small_right.nd rfl (by first | exact Or.inl rfl | exact Or.inr rfl)) (pss_cons (ps_set (i := 5) sc__law_small_right.nd rfl (by first | exact Or.inl rfl | exact Or.inr rfl) (pe_f (k__law_buffer T) hr (pa_cons (pv 1) (pa_cons (pv 4) pa_nil))))
      (pss_cons (ps_if (pt_not (pt_val (pe_f (k__law_alike T) hr (pa_cons (pe_f (k_least_buffer T) hr (pa_cons (pv 1) (pa_cons (pv 4) pa_nil))) (pa_cons (pv 5) pa_nil))))) (pss_one (ps_ret pe_bl)) pss_nil)
      (pss_one (ps_if (PW.pt (pw_or (pt_cmpR (op_neD hr.units) (pe_lc (own := [("one", 8)]) (tt := (tTest (tOp rNe (tVar 8) (tVar 5)))) (te := (tVar 8)) rfl sc__law_small_right.nd (pi_list (pe_f (k__law_by_pieces T) hr (pa_cons (pv 2) (pa_cons (pv 4) pa_nil)))) (blkOk_by (N := ["bag", "sizes", "pieces", "top", "pace", "due", "values", "falls", "one", "two"]) (sc := defScope s__law_small_right) (by decide +kernel)) (fun _ _ _ _ _ => (pg_name (i := 8) sc__law_small_right.nd rfl (by first | exact Or.inl rfl | exact Or.inr rfl))) (fun _ _ _ _ _ => (pts_one (pt_cmpR op_ne (pv 8) (pv 5) (nomark _)))) (fun _ _ _ _ _ => (pv 8))) (pe_lst pa_nil) (nomark _)) (pw_or1 (pt_cmpR (op_eqD hr.units) (pe_f (k__law_by_pieces T) hr (pa_cons (pv 2) (pa_cons (pv 4) pa_nil))) (pe_lst pa_nil) (nomark _))))) (pss_one (ps_ret pe_bl)) pss_nil)))))
      (pss_cons (ps_setLc (i := 6) (own := [("pace", 4)]) (tt := tYes) (te := (tCall (sp__law_buffer K) [] E0 (tCons (tVar 1) (tCons (tVar 4) tNil)))) rfl sc__law_small_right.nd rfl rfl (sw_true rfl rfl rfl (by decide +kernel)) (pi_range1 (by rfl) (T.fr 15) (pa_cons (pe_op op_add (pv 3) pe_int) pa_nil)) (blkOk_by (N := ["bag", "sizes", "pieces", "top", "pace", "due", "values", "falls", "one", "two"]) (sc := defScope s__law_small_right) (by decide +kernel)) (fun _ _ _ _ _ => (pg_name (i := 4) sc__law_small_right.nd rfl (by first | exact Or.inl rfl | exact Or.inr rfl))) (fun _ _ _ _ _ => pts_nil) (fun _ _ _ _ _ => (pe_f (k__law_buffer T) hr (pa_cons (pv 1) (pa_cons (pv 4) pa_nil)))))
      (pss_cons (ps_setLc (i := 7) (own := [("one", 8), ("two", 9)]) (tt := tYes) (g := (gTup K 2 (gCons (gName 8) (gCons (gName 9) gNil)))) (te := (tOp (rI0 fun i j => .int (i - j)) (tVar 8) (tVar 9))) rfl sc__law_small_right.nd rfl rfl (sw_true rfl rfl rfl (by decide +kernel)) (pi_zip (by rfl) (T.fr 16) (pa_cons (pv 6) (pa_cons (pe_slice sl_list (pv 6) (po_some pe_int) po_none) pa_nil))) (blkOk_by (N := ["bag", "sizes", "pieces", "top", "pace", "due", "values", "falls", "one", "two"]) (sc := defScope s__law_small_right) (by decide +kernel)) (fun _ _ _ _ _ => (pg_tup rfl (pgs_cons (pg_name (i := 8) sc__law_small_right.nd rfl (by first | exact Or.inl rfl | exact Or.inr rfl)) (pgs_cons (pg_name (i := 9) sc__law_small_right.nd rfl (by first | exact Or.inl rfl | exact Or.inr rfl)) pgs_nil)))) (fun _ _ _ _ _ => pts_nil) (fun _ _ _ _ _ => (pe_op op_sub (pv 8) (pv 9))))
      (pss_one (ps_ret (pe_cmpR (op_eqD hr.units) (pe_lc (own := [("one", 8)]) (tt := tYes) (te := (tOp (rIxT K) (tVar 8) (tC (.int 3)))) rfl sc__law_small_right.nd (pi_list (pv 2)) (blkOk_by (N := ["bag", "sizes", "pieces", "top", "pace", "due", "values", "falls", "one", "two"]) (sc := defScope s__law_small_right) (by decide +kernel)) (fun _ _ _ _ _ => (pg_name (i := 8) sc__law_small_right.nd rfl (by first | exact Or.inl rfl | exact Or.inr rfl))) (fun _ _ _ _ _ => pts_nil) (fun _ _ _ _ _ => (pe_ix ix_tup (pv 8) pe_int (fun _ _ => rfl)))) (pe_revL (pe_callB (cr_sortedSN rfl) (by rfl) (T.fr 31) (by decide +kernel) (pa_cons (pe_callTy (cr_setL rfl) (by rfl) (T.fr 32) (by decide +kernel) (pa_cons (pe_op op_cat (pv 7) (pe_lst (pa_cons pe_int pa_nil))) pa_nil)) pa_nil))) (nomark _)))))))))), ?_⟩
    walk_at "ev0"
    refine ⟨ls, j, 12, 6, n, rfl, hj, by decide, ⟨by decide, by decide +kernel⟩, fun sz ns H1 hsz f1 j1 gsz ⟨n1, n2⟩ pos => ?_⟩
    have z1 := (ZJ.start hj).call f1 j1 (new1 hsz gsz)
    have pp : ∀ x ∈ ns, 0 ≤ x := fun x m => (pos x m).1
    have sm := sum_most (k := 6) (l := ns) fun x m => (pos x m).2
    have s0 := (take_le pp ns.length).1
    rw [List.take_length] at s0
    have n9 : (ns.length : Int) * 6 ≤ 200 * 6 := by omega
    walk_at "ev"
    refine ⟨sz, ns, rfl, gsz, ⟨n1, n2⟩, pp, by omega, fun pa ts H2 hpa f2 gpa tl htn => ?_⟩
    have ok := full_ok pp (by omega) n2
    have z2 := z1.call0 f2 (new1 hpa gpa)
    walk_at "ev"
    refine ⟨pa, ts, ns, fullP ns, rfl, gpa, tl, ok, fun H3 f3 => ?_⟩
    have z3 := z2.same f3
    have tl3 : TL H3 ts ((fullP ns).map pcV) := tl.fr fun t o h => f3 _ _ nin h
    have g3p : H3 pa = some (.lst (ts.map V.ref)) := f3 _ _ nin gpa
    have g3s : H3 sz = some (.lst (ns.map V.int)) := z3.get (.tail _ (.head _))
    obtain ⟨tp, etp⟩ : ∃ tp : Nat, 2 + ns.sum = (tp : Int) := ⟨(2 + ns.sum).toNat, by omega⟩
    rw [etp]
    walk_at "ev"
    refine ⟨by omega, by omega, ?_⟩
    rw [Int.toNat_natCast]
    have okl := ok.len
    refine for_it (walk_range (lo := 0) (n := tp)) (fun i σ H' => ∃ u4 u5 u6 u7 u8 u9 : Option V, σ = [some (.ref j), some (.ref sz), some (.ref pa), some (.int tp), u4, u5, u6, u7, u8, u9] ∧ Fr [] H3 H') ⟨_, _, _, _, _, _, rfl, Fr.refl _⟩ (fun _ _ _ _ _ => trivial) (fun i x σ H4 H4' hi p y => ?_) (fun σ H4 p => ?_)
    · obtain ⟨u4, u5, u6, u7, u8, u9, rfl, f4⟩ := p
      obtain ⟨rfl, rfl⟩ := y
      have r0 : (0 : Int) ≤ 0 + (i : Int) := by omega
      have r9 : (0 : Int) + (i : Int) ≤ 2 ^ 202 := by omega
      dsimp only
      generalize (0 : Int) + (i : Int) = R at r0 r9 ⊢
      walk_at "ev"
      refine ⟨sz, ns, R, rfl, f4 _ _ nin g3s, fun H5 f5 => ?_⟩
      have f35 := f4.trans f5
      walk_at "ev"
      refine ⟨sz, ns, R, rfl, f35 _ _ nin g3s, ⟨n1, n2⟩, pp, r0, fun H6 f6 => ?_⟩
      have f36 := f35.trans f6
      walk_at "ev"
      refine ⟨_, _, .int (bF ns R), rfl, .int _, .int _, .int _, fun H7 f7 => ?_⟩
      have f37 := f36.trans f7
      walk_at "ev"
      refine ⟨pa, ts, ns, fullP ns, R, rfl, f37 _ _ nin g3p, tl3.fr (fun t o h => f37 _ _ nin h), ok, ⟨n2, by omega⟩, ⟨r0, r9⟩, fun q xs H8 hq f8 gq ne all l8 => ?_⟩
      have f38 := f37.trans f8
      walk_at "ev"
      refine lc_due (SqL.of gq) all (by omega) (fun x => by rfl) (fun H' R N e kN => ?_) (fun D H9 hD f9 gD => ?_)
      · walk_at "ev"
        rw [decide_eq_true rfl]
        exact iteF kN
      walk_at "ev"
      intro s1 k1
      have f39 := (f38.trans f9).new (o := .lst []) k1
      have gD2 : (upd H9 s1 (.lst [])) D = some (.lst (([] : List Int).map V.int)) := ((Fr.refl H9).new k1) _ _ nin gD
      refine r_neI (ns := []) (ms := []) (SqL.of gD2) (SqL.of upd_same) ?_
      walk_at "ev"
      rw [decide_eq_true rfl]
      refine iteF ?_
      walk_at "ev"
      refine ⟨pa, ts, ns, fullP ns, R, rfl, f39 _ _ nin g3p, tl3.fr (fun t o h => f39 _ _ nin h), ok, ⟨n2, by omega⟩, ⟨r0, r9⟩, fun q2 ys H10 hq2 f10 gq2 ne2 all2 l10 => ?_⟩
      have f3a := f39.trans f10
      walk_at "ev"
      intro s2 k2
      have f3b := f3a.new (o := .lst []) k2
      have gq3 : (upd H10 s2 (.lst [])) q2 = some (.lst (ys.map V.int)) := ((Fr.refl H10).new k2) _ _ nin gq2
      refine r_eqI (ms := []) (SqL.of gq3) (SqL.of upd_same) ?_
      walk_at "ev"
      rw [decide_eq_false ne2]
      refine iteF ?_
      walk_at "ev"
      exact ⟨_, _, _, _, _, _, rfl, f3b⟩
    · obtain ⟨u4, u5, u6, u7, u8, u9, rfl, f4⟩ := p
      have z4 := z3.same f4
      clear z1 z2 z3
      walk_at "ev"
      refine ⟨by omega, by omega, ?_⟩
      rw [show ((tp : Int) + 1).toNat = tp + 1 by omega]
      have g4s : H4 sz = some (.lst (ns.map V.int)) := f4 _ _ nin g3s
      refine lc_pure (walk_range (lo := 0) (n := tp + 1)) (fun i => .int (bF ns (i : Int))) (by omega) (fun _ _ => trivial) (fun i H' x H'' y => by rw [y.1]; exact Fr.refl _) (fun i x H' H'' R hi e y kR => ?_) (fun D5 H5 hD5 f5 gD5 => ?_)
      · obtain ⟨rfl, rfl⟩ := y
        dsimp only
        rw [Int.zero_add]
        walk_at "ev"
        refine ⟨rfl, ?_⟩
        walk_at "ev"
        refine ⟨sz, ns, (i : Int), rfl, e _ _ nin g4s, fun H6 f6 => ?_⟩
        exact kR _ f6
      have gV : H5 D5 = some (.lst (((List.range (tp + 1)).map fun (i : Nat) => bF ns (i : Int)).map V.int)) := by
        rw [List.map_map]
        exact gD5
      have vn : ∀ i, i < tp + 1 → nth ((List.range (tp + 1)).map fun (i : Nat) => bF ns (i : Int)) i = bF ns (i : Int) := fun i h => nth_rg h
      have vl : ((List.range (tp + 1)).map fun (i : Nat) => bF ns (i : Int)).length = tp + 1 := by simp
      generalize (List.range (tp + 1)).map (fun (i : Nat) => bF ns (i : Int)) = vsL at gV vn vl
      have z5 := z4.call0 f5 (new1 hD5 gV)
      walk_at "ev"
      rw [cutV_from1, ← List.map_drop]
      intro s6 k6
      have z6 := z5.alloc (.lst ((vsL.drop 1).map V.int)) k6
      have g6a := z6.get (.head _)
      have g6b := z6.get (.tail _ (.head _))
      walk_at "ev"
      refine lc_pure (walk_zip (xs := vsL.map V.int) (ys := (vsL.drop 1).map V.int) (n := tp) (by rw [List.length_map, List.length_map, List.length_drop, vl]; omega)) (fun i => .int (bF ns (i : Int) - bF ns ((i : Int) + 1))) (by omega) (fun H' e => ⟨e.sql (SqL.of g6b) nin, e.sql (SqL.of g6a) nin⟩)
        (fun i H' x H'' y => by obtain ⟨T, x1, x2, _, h0, rfl, _⟩ := y; exact (Fr.refl _).new h0) (fun i x H' H'' R hi e y kR => ?_) (fun D7 H7 hD7 f7 gD7 => ?_)
      · obtain ⟨T, x1, x2, rfl, h0, rfl, g1, g2⟩ := y
        obtain rfl := nth_at g1
        obtain rfl := nth_at g2
        have ew : nth vsL i - nth (vsL.drop 1) i = bF ns (i : Int) - bF ns ((i : Int) + 1) := by
          rw [nth_drop, vn i (by omega), vn (1 + i) (by omega), show ((1 + i : Nat) : Int) = (i : Int) + 1 by omega]
        rw [← ew] at kR
        walk_at "ev"
        refine ⟨rfl, ?_⟩
        walk_at "ev"
        exact kR _ (Fr.refl _)
      have gF : H7 D7 = some (.lst (((List.range tp).map fun (i : Nat) => bF ns (i : Int) - bF ns ((i : Int) + 1)).map V.int)) := by
        rw [List.map_map]
        exact gD7
      have fm : ∀ x, x ∈ ((List.range tp).map fun (i : Nat) => bF ns (i : Int) - bF ns ((i : Int) + 1)) ++ [0] ↔ x ∈ (fullP ns).map (·.f) := fun x => by
        constructor
        · intro m
          rcases List.mem_append.mp m with m | m
          · obtain ⟨i, _, rfl⟩ := List.mem_map.mp m
            exact ok.good.fall_in (R := (i : Int)) (by omega)
          · rw [List.mem_singleton.mp m]
            exact ok.good.zero_in
        · intro m
          obtain ⟨q, hq, rfl⟩ := List.mem_map.mp m
          have b := ok.bd q hq
          have b1 := b.lo0
          have b2 := b.lo9
          refine List.mem_append_left _ (List.mem_map.mpr ⟨q.lo.toNat, List.mem_range.mpr (by omega), ?_⟩)
          rw [show ((q.lo.toNat : Nat) : Int) = q.lo by omega]
          exact (ok.good.fall_of q hq).symm
      have fl : ((List.range tp).map fun (i : Nat) => bF ns (i : Int) - bF ns ((i : Int) + 1)).length = tp := by simp
      generalize (List.range tp).map (fun (i : Nat) => bF ns (i : Int) - bF ns ((i : Int) + 1)) = fsL at gF fm fl
      have z7 := (z6.sub (E' := []) (List.nil_sublist _)).call0 f7 (new1 hD7 gF)
      have f37 : Fr [] H3 H7 := f4.trans ((f5.new k6).trans f7)
      walk_at "ev"
      refine ⟨pa, rfl, ⟨_, SqL.of (f37 _ _ nin g3p)⟩, ?_⟩
      refine lc_part (fun q => .int q.f) (SqL.of (f37 _ _ nin g3p)) (tl3.fr fun t o h => f37 _ _ nin h) (by omega) (fun x => by rfl) (fun t q H' R qm e gt kR => ?_) (fun D8 H8 hD8 f8 gD8 => ?_)
      · walk_at "ev"
        exact kR
      have g8 : H8 D8 = some (.lst (((fullP ns).map (·.f)).map V.int)) := by
        rw [List.map_map]
        exact gD8
      have z8 := z7.call0 f8 (new1 hD8 g8)
      walk_at "ev"
      intro s9 k9
      have z9 := z8.alloc (.lst [.int 0]) k9
      walk_at "ev"
      rw [show fsL.map V.int ++ [V.int 0] = (fsL ++ [0]).map V.int by rw [List.map_append]; rfl]
      intro s10 k10
      have z10 := z9.alloc (.lst ((fsL ++ [0]).map V.int)) k10
      walk_at "ev"
      have l10 : (fsL ++ [(0 : Int)]).length ≤ 4000 := by
        rw [List.length_append, fl, List.length_singleton]
        omega
      refine r_setOf (SqL.of (z10.get (.head _))) l10 fun s11 c11 hc11 k11 => ?_
      have z11 := z10.alloc (SetO w s11 (fun j => decide (j ∈ fsL ++ [(0 : Int)])) c11) k11
      walk_at "ev"
      refine r_sortSN (z11.get (.head _)) (by omega) fun ms s12 m1 m2 m3 k12 => ?_
      have z12 := z11.alloc (.lst (ms.map V.int)) k12
      walk_at "ev"
      rw [← List.map_reverse, fall_rev m1 ok.good.falls.1 fun x => (m2 x).trans (fm x)]
      intro s13 k13
      have z13 := z12.alloc (.lst (((fullP ns).map (·.f)).map V.int)) k13
      refine r_eqI (SqL.of (z13.get (.tail _ (.tail _ (.tail _ (.tail _ (.tail _ (.head _)))))))) (SqL.of (z13.get (.head _))) ?_
      rw [decide_eq_true rfl]
      exact k _ z13.fr z13.jar
end
set_option Elab.async false
set_option linter.all false
set_option maxRecDepth 100000
set_option maxHeartbeats 4000000
set_option exponentiation.threshold 3000
theorem kb_buffer_pieces_needs : KwOk "buffer_pieces" "buffer_pieces" s_buffer_pieces ["needs"] ["needs"] 0 revA := fun _ _ _ _ _ _ us ws h1 h2 => match us, ws, h1, h2 with
  | [], [_], _, _ => rfl
theorem kr_buffer_pieces_needs {vs : List V} {us : List Value} {zs : List V} {ws : List Value} (h1 : Vals vs us) (h2 : Vals zs ws) (h3 : zs.length = ["needs"].length) (h4 : vs.length = 0) : Vals (revA vs zs) (revA us ws) := kr_rev0 h1 h2 h3 h4
theorem kb_least_buffer_rate_needs : KwOk "least_buffer" "least_buffer" s_least_buffer ["needs", "rate"] ["rate", "needs"] 0 revA := fun _ _ _ _ _ _ us ws h1 h2 => match us, ws, h1, h2 with
  | [], [_, _], _, _ => rfl
theorem kr_least_buffer_rate_needs {vs : List V} {us : List Value} {zs : List V} {ws : List Value} (h1 : Vals vs us) (h2 : Vals zs ws) (h3 : zs.length = ["rate", "needs"].length) (h4 : vs.length = 0) : Vals (revA vs zs) (revA us ws) := kr_rev0 h1 h2 h3 h4
def optD : Option Int → PyData
  | none => .none
  | some x => .int x
def pcD (q : Pc) : PyData := .tuple [.int q.lo, optD q.hi, .int q.v, .int q.f]
theorem dp_opt {K : PySem.W.Frag} {H : Hp} (o : Option Int) : Dp K H (optV o) (optD o) := by
  cases o with
  | none => exact .non
  | some x => exact .int x
theorem dp_pcs {K : PySem.W.Frag} {H : Hp} : ∀ {ts : List Addr} {ps : List Pc}, TL H ts (ps.map pcV) → DpAll K H (ts.map V.ref) (ps.map pcD)
  | [], [], _ => .nil
  | [], p :: ps, t => by cases t.1
  | t :: ts, [], h => by cases h.1
  | t :: ts, p :: ps, h => .cons (.tup (SqT.of (h.2 0 t rfl)) (.cons (.int _) (.cons (dp_opt _) (.cons (.int _) (.cons (.int _) .nil))))) (dp_pcs ⟨Nat.succ.inj h.1, fun i a hi => h.2 (i + 1) a hi⟩)
theorem canLay_pcs : ∀ ps : List Pc, PyData.canLayAll0 (ps.map pcD) = true
  | [] => rfl
  | p :: r => by
    have := canLay_pcs r
    rw [List.map_cons, PyData.canLayAll0, this]
    obtain ⟨lo, hi, v, f⟩ := p
    cases hi <;> rfl
theorem depth_pcs : ∀ ps : List Pc, PyData.depthAll (ps.map pcD) ≤ 1
  | [] => Nat.zero_le _
  | p :: r => by
    have := depth_pcs r
    rw [List.map_cons, PyData.depthAll]
    have e : (pcD p).depth = 1 := by
      obtain ⟨lo, hi, v, f⟩ := p
      cases hi <;> rfl
    omega
theorem shaped_pcs (ps : List Pc) : SeqAt.shaped (.list (ps.map pcD)) = true := by
  have := depth_pcs ps
  unfold SeqAt.shaped
  rw [PyData.canLay0, canLay_pcs, PyData.depth, decide_eq_true (by omega)]
  rfl
theorem r_nePc {K : PySem.W.Frag} {H : Hp} {Q : VK} {a b : Addr} {ts us : List Addr} {ps : List Pc} (ha : SqL K H a (ts.map V.ref)) (hb : SqL K H b (us.map V.ref)) (t : TL H ts (ps.map pcV)) (u : TL H us (ps.map pcV)) (q : Q (.bl false) H) : rNeD K (.ref a) (.ref b) H Q := by
  refine ⟨.list _, .list _, .lst ha (dp_pcs t), .lst hb (dp_pcs u), shaped_pcs ps, shaped_pcs ps, ?_⟩
  rw [SeqAt.eqv_refl _ (by rw [PyData.canLay0]; exact canLay_pcs ps)]
  exact q
theorem nj {a j : Addr} (h : a ≠ j) : a ∉ [j] := fun m => h (List.mem_singleton.mp m)
theorem cut_drop {xs : List V} {i : Int} : ∃ k, cutV xs (some i) none = xs.drop k := by
  unfold cutV
  rw [HT.sIx_none]
  exact ⟨_, List.take_of_length_le (by rw [List.length_drop]; exact Nat.le_refl _)⟩
theorem cut_take {xs : List V} {i : Int} : ∃ k, cutV xs none (some i) = xs.take k := by
  unfold cutV
  rw [HT.sIx_none]
  exact ⟨_, rfl⟩
theorem TL.app {H : Hp} {ts us : List Addr} {ps qs : List (List V)} (h1 : TL H ts ps) (h2 : TL H us qs) : TL H (ts ++ us) (ps ++ qs) := by
  refine ⟨by rw [List.length_append, List.length_append, h1.1, h2.1], fun i t e => ?_⟩
  rcases Nat.lt_or_ge i ts.length with c | c
  · rw [List.getElem?_append_left c] at e
    rw [h1.2 i t e, List.getD_eq_getElem?_getD, List.getD_eq_getElem?_getD, List.getElem?_append_left (by rw [← h1.1]; exact c)]
  · rw [List.getElem?_append_right c] at e
    rw [h2.2 _ t e, List.getD_eq_getElem?_getD, List.getD_eq_getElem?_getD, List.getElem?_append_right (by rw [← h1.1]; exact c), h1.1]
section
variable {P : Program} {w : World} {K : PySem.W.Frag} {mg : Str → Option Value} {base : Heap}
def sp__law_great_right (K : PySem.W.Frag) : Sp := fun vs H Q _ => ∃ (ls j : Addr) (n : Nat), vs = [.ref j] ∧ JarAt ls H j (n + 1500) ∧ ∀ H', Fr [j] H H' → JarAt ls H' j n → Q (.bl true) H'
theorem k__law_great_right (T : Tx fa fn K mg base) : Fk P w K mg base "_law_great_right" ["bag"] 5 (sp__law_great_right K) s__law_great_right "_law_great_right" := by
  refine T.fk 18 36 (q := "_law_great_right") (st := s__law_great_right) sc__law_great_right (fun _ _ _ _ _ _ us hl => match us, hl with | [_], _ => rfl) (fun vs H Q E h => ?_) (fun cdv A outer s H vs Q E hr h => ?_)
  · obtain ⟨ls, j, n, rfl, _⟩ := h
    rfl
  · obtain ⟨ls, j, n, rfl, hj, k⟩ := h
    have p26 : (10 : Int) ^ Int.toNat 26 ≤ 2 ^ 90 := by decide +kernel
    have p100 : (2 : Int) ^ 90 ≤ 2 ^ 100 := by decide +kernel
    have p190 : (2 : Int) ^ 90 * 200 ≤ 2 ^ 200 := by decide +kernel
    have p202 : (2 : Int) ^ 200 * 2 + 1 < 2 ^ 202 := by decide +kernel
    have p101 : (2 : Int) ^ 90 < 2 ^ 200 := by decide +kernel
    refine ⟨_, (pss_cons (ps_set (i := 1) sc__law_great_right.nd rfl (by first | exact Or.inl rfl | exact Or.inr rfl) (pe_ix ix_list (pe_lst (pa_cons (pe_op op_powW pe_int pe_int) (pa_cons (pe_op op_powW pe_int pe_int) pa_nil))) (pe_f (k__law_draw T) hr (pa_cons (pv 0) (pa_cons pe_int pa_nil))) (fun _ _ => rfl)))
      (pss_cons (ps_set (i := 2) sc__law_great_right.nd rfl (by first | exact Or.inl rfl | exact Or.inr rfl) (pe_f (k__law_needs T) hr (pa_cons (pv 0) (pa_cons (pe_ix ix_list (pe_lst (pa_cons pe_int (pa_cons pe_int (pa_cons pe_int pa_nil)))) (pe_f (k__law_draw T) hr (pa_cons (pv 0) (pa_cons pe_int pa_nil))) (fun _ _ => rfl)) (pa_cons (pv 1) pa_nil)))))
      (pss_cons (ps_set (i := 3) sc__law_great_right.nd rfl (by first | exact Or.inl rfl | exact Or.inr rfl) (pe_fK (k_buffer_pieces T) hr (kb_buffer_pieces_needs) (kr_buffer_pieces_needs) (pk_cons (pv 2) pk_nil)))
      (pss_cons (ps_if (PW.pt (pw_or (pt_not (pt_val (pe_f (k__law_shape_right T) hr (pa_cons (pv 3) pa_nil)))) (pw_or1 (pt_cmpR op_ne (pe_f (k_least_buffer T) hr (pa_cons (pv 2) (pa_cons pe_int pa_nil))) (pe_callB (cr_sum rfl) (by rfl) (T.fr 34) (by decide +kernel) (pa_cons (pv 2) pa_nil)) (nomark _))))) (pss_one (ps_ret pe_bl)) pss_nil)
      (pss_cons (ps_set (i := 4) sc__law_great_right.nd rfl (by first | exact Or.inl rfl | exact Or.inr rfl) (pe_f (k_buffer_pieces T) hr (pa_cons (pv 2) pa_nil)))
      (pss_cons (ps_expr (pe_bm PySem.F.plainAttrs_list PySem.F.slot_list_append PySem.F.type_list_append mt_append (pv 4) (pa_cons pe_non pa_nil)))
      (pss_cons (ps_if (pt_cmpR (op_neD hr.units) (pe_f (k_buffer_pieces T) hr (pa_cons (pv 2) pa_nil)) (pv 3) (nomark _)) (pss_one (ps_ret pe_bl)) pss_nil)
      (pss_cons (ps_for PassesOwn.never rfl (pi_list (pe_op op_cat (pe_slice sl_list (pv 3) po_none (po_some pe_int)) (pe_slice sl_list (pv 3) (po_some (pe_un un_neg pe_int)) po_none))) (pg_tup rfl (pgs_cons (pg_name (i := 5) sc__law_great_right.nd rfl (by first | exact Or.inl rfl | exact Or.inr rfl)) (pgs_cons (pg_name (i := 6) sc__law_great_right.nd rfl (by first | exact Or.inl rfl | exact Or.inr rfl)) (pgs_cons (pg_name (i := 7) sc__law_great_right.nd rfl (by first | exact Or.inl rfl | exact Or.inr rfl)) (pgs_cons (pg_name (i := 8) sc__law_great_right.nd rfl (by first | exact Or.inl rfl | exact Or.inr rfl)) pgs_nil))))) (pss_one (ps_for PassesOwn.never rfl (pi_list (pe_op op_cat (pe_lst (pa_cons (pv 5) (pa_cons (pe_op op_add (pv 5) pe_int) (pa_cons (pe_op op_add (pv 5) (pe_f (k__law_draw T) hr (pa_cons (pv 0) (pa_cons (pv 1) pa_nil)))) pa_nil)))) (pe_op op_rep (pe_lst (pa_cons (pv 6) pa_nil)) (pe_callTy call_int1 (by rfl) (T.fr 2) (by decide +kernel) (pa_cons (pe_cmpR op_notN (pv 6) pe_non (nomark _)) pa_nil))))) (pg_name (i := 9) sc__law_great_right.nd rfl (by first | exact Or.inl rfl | exact Or.inr rfl)) (pss_cons (ps_set (i := 10) sc__law_great_right.nd rfl (by first | exact Or.inl rfl | exact Or.inr rfl) (pe_f (k__law_buffer T) hr (pa_cons (pv 2) (pa_cons (pv 9) pa_nil))))
      (pss_cons (ps_set (i := 4) sc__law_great_right.nd rfl (by first | exact Or.inl rfl | exact Or.inr rfl) (pe_f (k__law_by_pieces T) hr (pa_cons (pv 3) (pa_cons (pv 9) pa_nil))))
      (pss_one (ps_if (PW.pt (pw_or (pt_cmpR op_ne (pe_fK (k_least_buffer T) hr (kb_least_buffer_rate_needs) (kr_least_buffer_rate_needs) (pk_cons (pv 9) (pk_cons (pv 2) pk_nil))) (pv 10) (nomark _)) (pw_or (pt_cmpR (op_neD hr.units) (pe_lc (own := [("one", 11)]) (tt := (tTest (tOp rNe (tVar 11) (tVar 10)))) (te := (tVar 11)) rfl sc__law_great_right.nd (pi_list (pv 4)) (blkOk_by (N := ["bag", "far", "sizes", "pieces", "told", "low", "high", "value", "fall", "pace", "due", "one"]) (sc := defScope s__law_great_right) (by decide +kernel)) (fun _ _ _ _ _ => (pg_name (i := 11) sc__law_great_right.nd rfl (by first | exact Or.inl rfl | exact Or.inr rfl))) (fun _ _ _ _ _ => (pts_one (pt_cmpR op_ne (pv 11) (pv 10) (nomark _)))) (fun _ _ _ _ _ => (pv 11))) (pe_lst pa_nil) (nomark _)) (pw_or1 (pt_cmpR (op_eqD hr.units) (pv 4) (pe_lst pa_nil) (nomark _)))))) (pss_one (ps_ret pe_bl)) pss_nil)))))))
      (pss_one (ps_ret pe_bl)))))))))), ?_⟩
    walk_at "ev0"
    intro t1 k1
    have z1 := (ZJ.start hj).alloc (.lst [.int (10 ^ Int.toNat 6), .int (10 ^ Int.toNat 26)]) k1
    walk_at "ev"
    refine ⟨ls, j, 2, n + 1499, rfl, z1.jar.le (by omega), by decide, by decide, fun x2 H2 x0 x1 f2 q2 => ?_⟩
    have z2 := z1.dips f2 q2
    obtain ⟨far, efar, bfar⟩ : ∃ far, atI [V.int (10 ^ Int.toNat 6), V.int (10 ^ Int.toNat 26)] x2 = some (.int far) ∧ 6 ≤ far ∧ far ≤ 2 ^ 90 := by
      rcases (show x2 = 0 ∨ x2 = 1 by omega) with rfl | rfl
      · exact ⟨_, rfl, by decide +kernel, by decide +kernel⟩
      · exact ⟨_, rfl, by decide +kernel, by decide +kernel⟩
    walk_at "ev"
    refine r_at efar ?_
    have z3 := z2.sub (E' := []) (List.nil_sublist _)
    walk_at "ev"
    intro t3 k3
    have z4 := z3.alloc (.lst [.int 40, .int 200, .int 40]) k3
    walk_at "ev"
    refine ⟨ls, j, 3, n + 1498, rfl, z4.jar.le (by omega), by decide, by decide, fun x4 H4 y0 y1 f4 q4 => ?_⟩
    have z5 := z4.dips f4 q4
    obtain ⟨mst, emst, hmst⟩ := three_at (a := 40) (b := 200) (c := 40) y0 y1
    walk_at "ev"
    refine r_at emst ?_
    have z6 := z5.sub (E' := []) (List.nil_sublist _)
    walk_at "ev"
    refine ⟨ls, j, mst, far, n + 498, rfl, z6.jar.le (by omega), by omega, ⟨by omega, by omega⟩, fun sz ns H5 hsz f5 j5 gsz ⟨n1, n2⟩ pos => ?_⟩
    have z7 := z6.call f5 j5 (new1 hsz gsz)
    have pp : ∀ x ∈ ns, 0 ≤ x := fun x m => (pos x m).1
    have sm := sum_most (k := far) (l := ns) fun x m => (pos x m).2
    have s0 := (take_le pp ns.length).1
    rw [List.take_length] at s0
    have n9 : (ns.length : Int) * far ≤ 200 * 2 ^ 90 := Int.mul_le_mul (by omega) bfar.2 (by omega) (by omega)
    have s9 : ns.sum ≤ 2 ^ 200 := by omega
    have ok := full_ok pp (by omega) n2
    have okl := ok.len
    walk_at "ev"
    refine ⟨rfl, ⟨sz, ns, rfl, gsz, ⟨n1, n2⟩, pp, s9, fun pa ts H6 hpa f6 gpa tl htn => ?_⟩⟩
    have l1 : ts.length = (fullP ns).length := by
      have := tl.1
      rw [List.length_map] at this
      exact this
    have z8 := z7.call0 f6 (new1 hpa gpa)
    clear z1 z2 z3 z4 z5 z6 z7
    walk_at "ev"
    refine ⟨pa, ts, ns, fullP ns, rfl, gpa, tl, ok, fun H7 f7 => ?_⟩
    have z9 := z8.same f7
    walk_at "ev"
    refine ⟨sz, ns, 0, rfl, z9.get (.tail _ (.head _)), ⟨n1, n2⟩, pp, Int.le_refl _, fun H8 f8 => ?_⟩
    rw [bF_zero (gL_is ns) pp (by omega)]
    have z10 := z9.same f8
    walk_at "ev"
    rw [decide_eq_true rfl]
    refine iteF ?_
    walk_at "ev"
    refine ⟨sz, ns, rfl, z10.get (.tail _ (.head _)), ⟨n1, n2⟩, pp, s9, fun pb us H9 hpb f9 gpb ul hun => ?_⟩
    have ulen : us.length = (fullP ns).length := by
      have := ul.1
      rw [List.length_map] at this
      exact this
    have z11 := z10.call0 f9 (new1 hpb gpb)
    clear z8 z9 z10
    walk_at "ev"
    have f8b : Fr [] H8 (upd H9 pb (.lst (us.map V.ref ++ [V.non]))) := f9.mut hpb
    have z12 := z11.set 0 (.lst (us.map V.ref ++ [V.non])) rfl
    generalize upd H9 pb (.lst (us.map V.ref ++ [V.non])) = HX at f8b z12 ⊢
    walk_at "ev"
    refine ⟨sz, ns, rfl, z12.get (.tail _ (.tail _ (.head _))), ⟨n1, n2⟩, pp, s9, fun pd ws HA hpd fA gpd wl hwn => ?_⟩
    have F6 : Fr [] H6 HA := f7.trans (f8.trans (f8b.trans fA))
    have tlA : TL HA ts ((fullP ns).map pcV) := tl.fr fun t o h => F6 _ _ nin h
    have z13 := (z12.sub (E' := [(2, pa, .lst (ts.map V.ref)), (2, sz, .lst (ns.map V.int))]) (.cons _ (List.Sublist.refl _))).same fA
    clear z11 z12
    walk_at "ev"
    refine r_nePc (SqL.of gpd) (SqL.of (z13.get (.head _))) wl tlA ?_
    walk_at "ev"
    obtain ⟨c1, ec1⟩ := cut_take (xs := ts.map V.ref) (i := 2)
    obtain ⟨c2, ec2⟩ := cut_drop (xs := ts.map V.ref) (i := -2)
    rw [ec1, ← List.map_take]
    intro s1 k1
    have z14 := z13.alloc (.lst ((ts.take c1).map V.ref)) k1
    walk_at "ev"
    rw [ec2, ← List.map_drop]
    intro s2 k2
    have z15 := z14.alloc (.lst ((ts.drop c2).map V.ref)) k2
    have lu : (ts.take c1 ++ ts.drop c2).length ≤ 402 := by
      rw [List.length_append, List.length_take, List.length_drop]
      omega
    have lu2 : ((ts.take c1).map V.ref).length + ((ts.drop c2).map V.ref).length ≤ 402 := by
      rw [List.length_map, List.length_map, ← List.length_append]
      exact lu
    refine r_cat (z15.get (.tail _ (.head _))) (z15.get (.head _)) (small1000' (Nat.le_trans lu2 (show 402 ≤ 100000 by decide))) fun s3 k3 => ?_
    rw [← List.map_append]
    have z16 := z15.alloc (.lst ((ts.take c1 ++ ts.drop c2).map V.ref)) k3
    have z17 := z16.sub (E' := [(2, s3, .lst ((ts.take c1 ++ ts.drop c2).map V.ref)), (2, pa, .lst (ts.map V.ref)), (2, sz, .lst (ns.map V.int))]) (.cons₂ _ (.cons _ (.cons _ (List.Sublist.refl _))))
    have FA : Fr [] HA (upd (upd (upd HA s1 (.lst ((ts.take c1).map V.ref))) s2 (.lst ((ts.drop c2).map V.ref))) s3 (.lst ((ts.take c1 ++ ts.drop c2).map V.ref))) := (((Fr.refl HA).new k1).new k2).new k3
    generalize upd (upd (upd HA s1 (.lst ((ts.take c1).map V.ref))) s2 (.lst ((ts.drop c2).map V.ref))) s3 (.lst ((ts.take c1 ++ ts.drop c2).map V.ref)) = HB at z17 FA ⊢
    clear z13 z14 z15 z16
    have tlB : TL HB ts ((fullP ns).map pcV) := tlA.fr fun t o h => FA _ _ nin h
    have tlC : TL HB (ts.take c1 ++ ts.drop c2) (((fullP ns).take c1 ++ (fullP ns).drop c2).map pcV) := by
      rw [List.map_append]
      exact (tlB.take c1).app (tlB.drop c2)
    have hq : ∀ q ∈ (fullP ns).take c1 ++ (fullP ns).drop c2, q ∈ fullP ns := fun q m => by
      rcases List.mem_append.mp m with m | m
      · exact List.mem_of_mem_take m
      · exact List.mem_of_mem_drop m
    generalize ts.take c1 ++ ts.drop c2 = es at z17 tlC lu ⊢
    generalize (fullP ns).take c1 ++ (fullP ns).drop c2 = qs at tlC hq
    have hnj : ∀ t ∈ ts, t ≠ j := fun t m e => by
      obtain ⟨o, ho⟩ := j5.some
      have := htn t m
      rw [e, ho] at this
      cases this
    have HJ : ∃ o, HB j = some o := z17.jar.some
    have JB := z17.jar
    walk_at "ev"
    refine for_it (walk_list (xs := es.map V.ref)) (fun i σ H' => ∃ (u4 u5 u6 u7 u8 u9 u10 u11 : Option V), σ = [some (.ref j), some (.int far), some (.ref sz), some (.ref pa), u4, u5, u6, u7, u8, u9, u10, u11] ∧ ZJ ls H H' j (n + (402 - i)) [(2, s3, .lst (es.map V.ref)), (2, pa, .lst (ts.map V.ref)), (2, sz, .lst (ns.map V.int))] ∧ Fr [j] HB H') ⟨_, _, _, _, _, _, _, _, rfl, z17.le (by omega), Fr.refl _⟩ (fun i σ H' _ pv => ?_) (fun i x σ H' H'' hi pv y => ?_) (fun σ H' pv => ?_)
    · obtain ⟨u4, u5, u6, u7, u8, u9, u10, u11, rfl, z, _⟩ := pv
      exact SqL.of (z.get (.head _))
    · obtain ⟨u4, u5, u6, u7, u8, u9, u10, u11, rfl, z, fB⟩ := pv
      obtain ⟨rfl, hx⟩ := y
      obtain ⟨t, q, rfl, e1, e2, gt0⟩ := tlC.item hx
      have hm := hq q (List.mem_of_getElem? e2)
      have hi2 : i < 402 := by
        rw [List.length_map] at hi
        omega
      have tne : t ≠ j := fun e => by
        obtain ⟨ns9, i9, b9, c9, d9, e9, _⟩ := JB
        rw [e, e9] at gt0
        cases gt0
      have gt : H'' t = some (.tup [.int q.lo, optV q.hi, .int q.v, .int q.f]) := fB _ _ (nj tne) gt0
      obtain ⟨b1, b2, b3, b4, b5⟩ := ok.bd q hm
      obtain ⟨lo, hi', v, f⟩ := q
      dsimp only at b1 b2 b3 b4 b5 gt
      walk_at "ev"
      refine ⟨ls, j, far, n + (402 - i) - 1, rfl, z.jar.le (by omega), by omega, by omega, fun x5 H9 x50 x51 f9 q9 => ?_⟩
      have y1 := z.dips f9 q9
      walk_at "ev"
      intro s4 k4
      have y2 := y1.alloc (.lst [.int lo, .int (lo + 1), .int (lo + x5)]) k4
      walk_at "ev"
      intro s5 k5
      have y3 := y2.alloc (.lst [optV hi']) k5
      walk_at "ev"
      refine ⟨rfl, ?_⟩
      refine r_nil ?_
      refine .inr ⟨_, rfl, ?_⟩
      obtain ⟨kk, ek, hk1, hk2, hk3⟩ : ∃ kk : Nat, (if (!decide (optV hi' = V.non)) = true then (1 : Int) else 0) = (kk : Int) ∧ kk ≤ 1 ∧ (hi' = none → kk = 0) ∧ (hi' ≠ none → kk = 1) := by
        cases hi' with
        | none => exact ⟨0, by simp [optV], by omega, fun _ => rfl, fun h => absurd rfl h⟩
        | some h => exact ⟨1, by simp [optV], by omega, fun h => (by cases h), fun _ => rfl⟩
      rw [ek]
      refine ⟨s5, _, _, rfl, rfl, y3.get (.head _), by omega, by omega, small1000' (by simp; omega), fun s6 k6 => ?_⟩
      have y4 := y3.alloc (.lst (List.replicate ((kk : Nat) : Int).toNat [optV hi']).flatten) k6
      have kl : (List.replicate ((kk : Nat) : Int).toNat [optV hi']).flatten.length ≤ 1 := by simp; omega
      show rCat (V.ref s4) (V.ref s6) _ _
      refine r_cat (y4.get (.tail _ (.tail _ (.head _)))) (y4.get (.head _)) (small1000' (Nat.le_trans (Nat.add_le_add (Nat.le_refl _) kl) (show 3 + 1 ≤ 100000 by decide))) fun s7 k7 => ?_
      obtain ⟨Ls, eL, hL, lL⟩ : ∃ Ls : List Int, [V.int lo, V.int (lo + 1), V.int (lo + x5)] ++ (List.replicate ((kk : Nat) : Int).toNat [optV hi']).flatten = Ls.map V.int ∧ (∀ x ∈ Ls, 0 ≤ x ∧ x ≤ 2 ^ 202) ∧ Ls.length ≤ 4 := by
        cases hi' with
        | none =>
          have := hk2 rfl
          subst this
          refine ⟨[lo, lo + 1, lo + x5], rfl, fun x m => ?_, by simp⟩
          simp only [List.mem_cons, List.not_mem_nil, or_false] at m
          rcases m with rfl | rfl | rfl <;> omega
        | some h =>
          have := hk3 (fun e => by cases e)
          subst this
          have b6 := b5 h rfl
          refine ⟨[lo, lo + 1, lo + x5, h], rfl, fun x m => ?_, by simp⟩
          simp only [List.mem_cons, List.not_mem_nil, or_false] at m
          rcases m with rfl | rfl | rfl | rfl <;> omega
      rw [eL]
      have y5 := y4.alloc (.lst (Ls.map V.int)) k7
      have y6 := y5.sub (E' := [(2, s7, .lst (Ls.map V.int)), (2, s3, .lst (es.map V.ref)), (2, pa, .lst (ts.map V.ref)), (2, sz, .lst (ns.map V.int))]) (.cons₂ _ (.cons _ (.cons _ (.cons _ (List.Sublist.refl _)))))
      have fD := (((((Fr.refl H9 : Fr [] H9 H9)).new (o := .lst [.int lo, .int (lo + 1), .int (lo + x5)]) k4).new (o := .lst [optV hi']) k5).new (o := .lst (List.replicate ((kk : Nat) : Int).toNat [optV hi']).flatten) k6).new (o := .lst (Ls.map V.int)) k7
      generalize upd (upd (upd (upd H9 s4 _) s5 _) s6 _) s7 _ = HD at y6 fD ⊢
      have tlD : TL HD ts ((fullP ns).map pcV) := ⟨tlB.1, fun i a e => by
        have hj9 := hnj a (List.mem_of_getElem? e)
        exact fD _ _ nin (f9 _ _ (nj hj9) (fB _ _ (nj hj9) (tlB.2 i a e)))⟩
      have fBD : Fr [j] HB HD := (fB.trans f9).trans fD.up0
      have gpD := y6.get (.tail _ (.tail _ (.head _)))
      have gsD := y6.get (.tail _ (.tail _ (.tail _ (.head _))))
      have gLD := y6.get (.head _)
      clear y1 y2 y3 y4 y5
      walk_at "ev"
      refine for_it (walk_list (xs := Ls.map V.int)) (fun _ σ H' => ∃ (w4 w5 w6 w7 w8 w9 w10 w11 : Option V), σ = [some (.ref j), some (.int far), some (.ref sz), some (.ref pa), w4, w5, w6, w7, w8, w9, w10, w11] ∧ Fr [] HD H') ⟨_, _, _, _, _, _, _, _, rfl, Fr.refl _⟩ (fun _ σ H' _ pv => ?_) (fun i2 x σ H1 H2 hi9 pv y => ?_) (fun σ H' pv => ?_)
      · obtain ⟨w4, w5, w6, w7, w8, w9, w10, w11, rfl, g1⟩ := pv
        exact SqL.of (g1 _ _ nin gLD)
      · obtain ⟨w4, w5, w6, w7, w8, w9, w10, w11, rfl, g1⟩ := pv
        obtain ⟨rfl, hx9⟩ := y
        obtain rfl := nth_at hx9
        obtain ⟨r0, r9⟩ := hL _ (nth_mem (ns := Ls) (i := i2) (by rw [List.length_map] at hi9; exact hi9))
        generalize nth Ls i2 = R at r0 r9 ⊢
        walk_at "ev"
        refine ⟨sz, ns, R, rfl, g1 _ _ nin gsD, fun H3 f3 => ?_⟩
        have g3 := g1.trans f3
        walk_at "ev"
        refine ⟨pa, ts, ns, fullP ns, R, rfl, g3 _ _ nin gpD, tlD.fr (fun t o h => g3 _ _ nin h), ok, ⟨n2, by omega⟩, ⟨r0, r9⟩, fun q xs H8 hq8 f8 gq ne all l8 => ?_⟩
        have g8 := g3.trans f8
        walk_at "ev"
        refine ⟨rfl, ⟨sz, ns, R, rfl, g8 _ _ nin gsD, ⟨n1, n2⟩, pp, r0, fun H10 f10 => ?_⟩⟩
        have g10 := g8.trans f10
        have gq10 := f10 _ _ nin gq
        walk_at "ev"
        rw [decide_eq_true rfl]
        refine iteF ?_
        walk_at "ev"
        refine lc_due (SqL.of gq10) all (by omega) (fun x => by rfl) (fun H' R N e kN => ?_) (fun D H11 hD f11 gD => ?_)
        · walk_at "ev"
          rw [decide_eq_true rfl]
          exact iteF kN
        walk_at "ev"
        intro s11 k11
        have g12 := (g10.trans f11).new (o := .lst []) k11
        have gD2 : (upd H11 s11 (.lst [])) D = some (.lst (([] : List Int).map V.int)) := ((Fr.refl H11).new k11) _ _ nin gD
        have gq12 : (upd H11 s11 (.lst [])) q = some (.lst (xs.map V.int)) := (f11.new k11) _ _ nin gq10
        refine r_neI (ns := []) (ms := []) (SqL.of gD2) (SqL.of upd_same) ?_
        walk_at "ev"
        rw [decide_eq_true rfl]
        refine iteF ?_
        walk_at "ev"
        intro s13 k13
        have g13 := g12.new (o := .lst []) k13
        have gq13 : (upd (upd H11 s11 (.lst [])) s13 (.lst [])) q = some (.lst (xs.map V.int)) := ((Fr.refl (upd H11 s11 (.lst []))).new k13) _ _ nin gq12
        refine r_eqI (ms := []) (SqL.of gq13) (SqL.of upd_same) ?_
        walk_at "ev"
        rw [decide_eq_false ne]
        refine iteF ?_
        walk_at "ev"
        exact ⟨_, _, _, _, _, _, _, _, rfl, g13⟩
      · obtain ⟨w4, w5, w6, w7, w8, w9, w10, w11, rfl, g1⟩ := pv
        have y7 := (y6.sub (E' := [(2, s3, .lst (es.map V.ref)), (2, pa, .lst (ts.map V.ref)), (2, sz, .lst (ns.map V.int))]) (.cons _ (List.Sublist.refl _))).same g1
        exact ⟨_, _, _, _, _, _, _, _, rfl, y7.le (by omega), fBD.trans g1.up0⟩
    · obtain ⟨u4, u5, u6, u7, u8, u9, u10, u11, rfl, z, fB⟩ := pv
      walk_at "ev"
      exact k _ z.fr (z.jar.le (by omega))
end
set_option Elab.async false
set_option linter.all false
set_option maxRecDepth 100000
set_option maxHeartbeats 4000000
set_option exponentiation.threshold 3000
def pcQ (q : Pc) : Int × Option Int × Int × Int := (q.lo, q.hi, q.v, q.f)
theorem pcQ_inj : ∀ {l k : List Pc}, l.map pcQ = k.map pcQ → l = k
  | [], [], _ => rfl
  | [], _ :: _, e => by cases e
  | _ :: _, [], e => by cases e
  | ⟨a1, a2, a3, a4⟩ :: l, ⟨b1, b2, b3, b4⟩ :: k, e => by
    rw [List.map_cons, List.map_cons, List.cons.injEq] at e
    obtain ⟨e1, e2⟩ := e
    have e3 : (a1, a2, a3, a4) = (b1, b2, b3, b4) := e1
    cases e3
    rw [pcQ_inj e2]
theorem full_A : fullP [2, 0, 7, 1] = [⟨0, some 1, 10, 3⟩, ⟨1, none, 7, 0⟩] := pcQ_inj (by decide +kernel)
theorem full_B : fullP [0, 0] = [⟨0, none, 0, 0⟩] := pcQ_inj (by decide +kernel)
theorem buf_A : bF [2, 0, 7, 1] 0 = 10 := by decide +kernel
theorem buf_B : bF [5] (10 ^ Int.toNat 29) = 5 := by decide +kernel
def optO : Option Int → Od
  | none => .non
  | some x => .int x
def pcO (q : Pc) : Od := .tup [.int q.lo, optO q.hi, .int q.v, .int q.f]
theorem od_opt {H : Hp} (o : Option Int) : OAt H (optV o) (optO o) := by
  cases o with
  | none => exact .non
  | some x => exact .int x
theorem od_pcs {H : Hp} : ∀ {ts : List Addr} {ps : List Pc}, TL H ts (ps.map pcV) → OAll H (ts.map V.ref) (ps.map pcO)
  | [], [], _ => .nil
  | [], p :: ps, t => by cases t.1
  | t :: ts, [], h => by cases h.1
  | t :: ts, p :: ps, h => .cons (.tup (h.2 0 t rfl) (.cons (.int _) (.cons (od_opt _) (.cons (.int _) (.cons (.int _) .nil))))) (od_pcs ⟨Nat.succ.inj h.1, fun i a hi => h.2 (i + 1) a hi⟩)
/-- what the law tells at its end -/
def dueD : Od := .lst [.lst [.tup [.int 0, .int 1, .int 10, .int 3], .tup [.int 1, .non, .int 7, .int 0]], .lst [.tup [.int 0, .non, .int 0, .int 0]], .int 10, .int 5]
theorem due_ak : Ak 3 dueD := by
  refine .lst (by decide) fun d m => ?_
  simp only [List.mem_cons, List.not_mem_nil, or_false] at m
  rcases m with rfl | rfl | rfl | rfl
  · refine .lst (by decide) fun d m => ?_
    simp only [List.mem_cons, List.not_mem_nil, or_false] at m
    rcases m with rfl | rfl
    · refine .tup (by decide) fun d m => ?_
      simp only [List.mem_cons, List.not_mem_nil, or_false] at m
      rcases m with rfl | rfl | rfl | rfl <;> first | exact .int _ | exact .non
    · refine .tup (by decide) fun d m => ?_
      simp only [List.mem_cons, List.not_mem_nil, or_false] at m
      rcases m with rfl | rfl | rfl | rfl <;> first | exact .int _ | exact .non
  · refine .lst (by decide) fun d m => ?_
    simp only [List.mem_cons, List.not_mem_nil, or_false] at m
    subst m
    refine .tup (by decide) fun d m => ?_
    simp only [List.mem_cons, List.not_mem_nil, or_false] at m
    rcases m with rfl | rfl | rfl | rfl <;> first | exact .int _ | exact .non
  · exact .int _
  · exact .int _
section
variable {P : Program} {w : World} {K : PySem.W.Frag} {mg : Str → Option Value} {base : Heap}
def sp_law (K : PySem.W.Frag) : Sp := fun vs H Q _ => ∃ (a : Addr) (ns : List Int), vs = [.ref a] ∧ SqL K H a (ns.map V.int) ∧ ns.length ≤ 63 ∧ ∀ H', Q (.bl true) H'
theorem k_law (T : Tx fa fn K mg base) : Fk P w K mg base "law" ["script"] 7 (sp_law K) s_law "law" := by
  refine T.fk 19 37 (q := "law") (st := s_law) sc_law (fun _ _ _ _ _ _ us hl => match us, hl with | [_], _ => rfl) (fun vs H Q E h => ?_) (fun cdv A outer s H vs Q E hr h => ?_)
  · obtain ⟨a, ns, rfl, _⟩ := h
    rfl
  · obtain ⟨a, ns, rfl, hs, hl, k⟩ := h
    refine ⟨_, (pss_cons (ps_set (i := 1) sc_law.nd rfl (by first | exact Or.inl rfl | exact Or.inr rfl) (pe_f (k__law_bag T) hr (pa_cons (pv 0) pa_nil)))
      (pss_cons (ps_for PassesOwn.never rfl (pi_range1 (by rfl) (T.fr 15) (pa_cons pe_int pa_nil)) (pg_name (i := 2) sc_law.nd rfl (by first | exact Or.inl rfl | exact Or.inr rfl)) (pss_one (ps_if (pt_not (pt_val (pe_f (k__law_small_right T) hr (pa_cons (pv 1) pa_nil)))) (pss_one (ps_ret pe_bl)) pss_nil)))
      (pss_cons (ps_if (pt_not (pt_val (pe_f (k__law_great_right T) hr (pa_cons (pv 1) pa_nil)))) (pss_one (ps_ret pe_bl)) pss_nil)
      (pss_cons (ps_set (i := 3) sc_law.nd rfl (by first | exact Or.inl rfl | exact Or.inr rfl) (pe_lst (pa_cons (pe_f (k_buffer_pieces T) hr (pa_cons (pe_lst (pa_cons pe_int (pa_cons pe_int (pa_cons pe_int (pa_cons pe_int pa_nil))))) pa_nil)) (pa_cons (pe_f (k_buffer_pieces T) hr (pa_cons (pe_lst (pa_cons pe_int (pa_cons pe_int pa_nil))) pa_nil)) (pa_cons (pe_f (k_least_buffer T) hr (pa_cons (pe_lst (pa_cons pe_int (pa_cons pe_int (pa_cons pe_int (pa_cons pe_int pa_nil))))) (pa_cons pe_int pa_nil))) pa_nil)))))
      (pss_cons (ps_expr (pe_bm PySem.F.plainAttrs_list PySem.F.slot_list_append PySem.F.type_list_append mt_append (pv 3) (pa_cons (pe_f (k_least_buffer T) hr (pa_cons (pe_lst (pa_cons pe_int pa_nil)) (pa_cons (pe_op op_powW pe_int pe_int) pa_nil))) pa_nil)))
      (pss_one (ps_ret (pe_f (k__law_alike T) hr (pa_cons (pv 3) (pa_cons (pe_lst (pa_cons (pe_lst (pa_cons (pe_tup (pa_cons pe_int (pa_cons pe_int (pa_cons pe_int (pa_cons pe_int pa_nil))))) (pa_cons (pe_tup (pa_cons pe_int (pa_cons pe_non (pa_cons pe_int (pa_cons pe_int pa_nil))))) pa_nil))) (pa_cons (pe_lst (pa_cons (pe_tup (pa_cons pe_int (pa_cons pe_non (pa_cons pe_int (pa_cons pe_int pa_nil))))) pa_nil)) (pa_cons pe_int (pa_cons pe_int pa_nil))))) pa_nil)))))))))), ?_⟩
    walk_at "ev0"
    refine ⟨a, ns, rfl, hs, hl, fun ls j H1 hj f1 J1 => ?_⟩
    walk_at "ev"
    refine ⟨by decide, by decide, ?_⟩
    refine for_it (walk_range (lo := 0) (n := 3)) (fun i σ H' => ∃ u2 u3 : Option V, σ = [some (.ref a), some (.ref j), u2, u3] ∧ JarAt ls H' j (3000 + 1000 * (3 - i))) ⟨_, _, rfl, J1.le (by decide)⟩ (fun _ _ _ _ _ => trivial) (fun i x σ H2 H2' hi p y => ?_) (fun σ H2 p => ?_)
    · obtain ⟨u2, u3, rfl, J2⟩ := p
      obtain ⟨rfl, rfl⟩ := y
      walk_at "ev"
      refine ⟨ls, j, 2000 + 1000 * (3 - i), rfl, J2.le (by omega), fun H3 f3 J3 => ?_⟩
      walk_at "ev"
      exact ⟨_, _, rfl, J3.le (by omega)⟩
    · obtain ⟨u2, u3, rfl, J2⟩ := p
      walk_at "ev"
      refine ⟨ls, j, 1000, rfl, J2.le (by omega), fun H3 f3 J3 => ?_⟩
      walk_at "ev"
      intro s1 k1
      have z1 := (Z.start0 H3).alloc (.lst [.int 2, .int 0, .int 7, .int 1]) k1
      walk_at "ev"
      refine ⟨s1, [2, 0, 7, 1], rfl, z1.get (.head _), by decide, by decide, by decide +kernel, fun pa ts H4 hpa f4 gpa tl htn => ?_⟩
      have z2 := z1.call0 f4 (new1 hpa gpa)
      walk_at "ev"
      intro s2 k2
      have z3 := z2.alloc (.lst [.int 0, .int 0]) k2
      walk_at "ev"
      refine ⟨s2, [0, 0], rfl, z3.get (.head _), by decide, by decide, by decide +kernel, fun pb us H5 hpb f5 gpb ul hun => ?_⟩
      have z4 := z3.call0 f5 (new1 hpb gpb)
      walk_at "ev"
      intro s3 k3
      have z5 := z4.alloc (.lst [.int 2, .int 0, .int 7, .int 1]) k3
      walk_at "ev"
      refine ⟨s3, [2, 0, 7, 1], 0, rfl, z5.get (.head _), by decide, by decide, Int.le_refl _, fun H6 f6 => ?_⟩
      have z6 := z5.same f6
      rw [buf_A]
      walk_at "ev"
      intro tp kt
      have z7 := z6.alloc (.lst [.ref pa, .ref pb, .int 10]) kt
      walk_at "ev"
      intro s5 k5
      have z8 := z7.alloc (.lst [.int 5]) k5
      walk_at "ev"
      refine ⟨s5, [5], 10 ^ Int.toNat 29, rfl, z8.get (.head _), by decide, by decide, by decide +kernel, fun H7 f7 => ?_⟩
      have z9 := z8.same f7
      rw [buf_B]
      walk_at "ev"
      have z10 := z9.set 1 (.lst [.ref pa, .ref pb, .int 10, .int 5]) rfl (.inr rfl)
      rw [full_A] at tl
      rw [full_B] at ul
      have q56 : Fr [] H5 H6 := ((Fr.refl H5).new k3).trans f6
      have q46 : Fr [] H4 H6 := (((Fr.refl H4).new k2).trans f5).trans q56
      have q67 : Fr [] H6 H7 := (((Fr.refl H6).new kt).new k5).trans f7
      have none_of : ∀ {Hx : Hp}, Fr [] Hx H6 → Hx tp = none := fun {Hx} q => by
        cases e : Hx tp with
        | none => rfl
        | some o =>
          have := q _ _ nin e
          rw [kt] at this
          cases this
      have r4 : Fr [] H4 (upd H7 tp (.lst [.ref pa, .ref pb, .int 10, .int 5])) := (q46.trans q67).mut (none_of q46)
      have r5 : Fr [] H5 (upd H7 tp (.lst [.ref pa, .ref pb, .int 10, .int 5])) := (q56.trans q67).mut (none_of q56)
      have tl10 := tl.fr fun t o h => r4 t o nin h
      have ul10 := ul.fr fun t o h => r5 t o nin h
      have gpa10 := r4 _ _ nin gpa
      have gpb10 := r5 _ _ nin gpb
      have gtp10 : (upd H7 tp (.lst [.ref pa, .ref pb, .int 10, .int 5])) tp = some (.lst [.ref pa, .ref pb, .int 10, .int 5]) := upd_same
      clear z1 z2 z3 z4 z5 z6 z7 z8 z9 z10 r4 r5 q67 q56 q46
      have ez : [V.ref pa, V.ref pb, V.int 10] ++ [V.int 5] = [V.ref pa, V.ref pb, V.int 10, V.int 5] := rfl
      try rw [ez]
      generalize upd H7 tp (.lst [.ref pa, .ref pb, .int 10, .int 5]) = HZ at tl10 ul10 gpa10 gpb10 gtp10 ⊢
      have y0 := Z.start0 HZ
      intro t1 kt1
      have y1 := y0.alloc (.tup [.int 0, .int 1, .int 10, .int 3]) kt1
      walk_at "ev"
      intro t2 kt2
      have y2 := y1.alloc (.tup [.int 1, .non, .int 7, .int 0]) kt2
      walk_at "ev"
      intro l1 kl1
      have y3 := y2.alloc (.lst [.ref t1, .ref t2]) kl1
      walk_at "ev"
      intro t3 kt3
      have y4 := y3.alloc (.tup [.int 0, .non, .int 0, .int 0]) kt3
      walk_at "ev"
      intro l2 kl2
      have y5 := y4.alloc (.lst [.ref t3]) kl2
      walk_at "ev"
      intro l3 kl3
      have y6 := y5.alloc (.lst [.ref l1, .ref l2, .int 10, .int 5]) kl3
      walk_at "ev"
      have yf := y6.fr0 (by simp)
      refine ⟨_, _, dueD, rfl, .lst (yf _ _ nin gtp10) (.cons (.lst (yf _ _ nin gpa10) (od_pcs (tl10.fr fun t o h => yf _ _ nin h))) (.cons (.lst (yf _ _ nin gpb10) (od_pcs (ul10.fr fun t o h => yf _ _ nin h))) (.cons (.int _) (.cons (.int _) .nil)))), ?_, due_ak, fun H' f => k _⟩
      refine .lst (y6.get (.head _)) (.cons (.lst (y6.get (.tail _ (.tail _ (.tail _ (.head _))))) ?_) (.cons (.lst (y6.get (.tail _ (.head _))) ?_) (.cons (.int _) (.cons (.int _) .nil))))
      · exact .cons (.tup (y6.get (.tail _ (.tail _ (.tail _ (.tail _ (.tail _ (.head _))))))) (.cons (.int _) (.cons (.int _) (.cons (.int _) (.cons (.int _) .nil))))) (.cons (.tup (y6.get (.tail _ (.tail _ (.tail _ (.tail _ (.head _)))))) (.cons (.int _) (.cons .non (.cons (.int _) (.cons (.int _) .nil))))) .nil)
      · exact .cons (.tup (y6.get (.tail _ (.tail _ (.head _)))) (.cons (.int _) (.cons .non (.cons (.int _) (.cons (.int _) .nil))))) .nil
end
set_option Elab.async false
set_option linter.all false
set_option maxRecDepth 100000
set_option maxHeartbeats 0
theorem law_facts {P : Program} {w : World} {K : PySem.W.Frag} {h : Heap} {mg : Str → Option Value} {f : Addr} (X : K.In h) (G : h.Ns mainGlobals mg) (hfa : mg ("law" : Str) = some (.ref f)) (c : SaysM fa fn K) :
    ∃ fd : FuncData, (∀ (s : Shared) (v : Value), BindsTo s fd ⟨[v], []⟩ [("script", v)]) ∧ ∀ base : Heap, K.In base → base.Ns mainGlobals mg → FnOk P w K mg base CX0 7 f fd ["script"] (sp_law K) := by
  obtain ⟨f0, fd0, F0, g0, _, b0, fu0⟩ := (k_law (P := P) (w := w) (⟨c, X, G⟩ : Tx fa fn K mg h)).ex
  obtain rfl : f0 = f := by
    have e := g0.symm.trans hfa
    cases e
    rfl
  have b := FunD.bindsA (ps := ["script"]) fu0 fun _ _ _ _ _ _ us hl => match us, hl with | [_], _ => rfl
  refine ⟨fd0, fun s v => b s [v] rfl, fun bs hX hG => ?_⟩
  obtain ⟨f1, fd1, F1, g1, _, _, fu1⟩ := (k_law (P := P) (w := w) (⟨c, hX, hG⟩ : Tx fa fn K mg bs)).ex
  obtain rfl : f1 = f0 := by
    have e := g1.symm.trans hfa
    cases e
    rfl
  obtain ⟨_, _, _, _, _, _, _, _, _, _, _, lk0, _⟩ := fu0.ex
  obtain ⟨_, _, _, _, _, _, _, _, _, _, _, lk1, _⟩ := fu1.ex
  obtain rfl : fd1 = fd0 := by
    have e := lk1.symm.trans lk0
    cases e
    rfl
  exact F1
end Ev
open PySem PySem.W PySem.Calls PyProof.Rows
theorem PySem.Challenge.cw_evenbits_k51_least_buffers_and_their_pie_holds : PySem.Challenge.rw_evenbits_k51_least_buffers_and_their_pie.Holds := by
  w_on; o_law
  refine HandSHeadRun.head_any (r := OpenLaw.row PySem.Challenge.rw_evenbits_k51_least_buffers_and_their_pie) (q := view (OpenLaw.row PySem.Challenge.rw_evenbits_k51_least_buffers_and_their_pie).prog [28]) (H := Ev.hk) (ob := Ev.ob) (M := 9000)
    (loose := ["__name__", "MOST_TIMES", "is_whole", "is_whole_list", "sums_from_zero", "EvenError", "InvalidNumber", "InvalidNeeds", "least_buffer", "buffer_pieces", "_check_needs", "_check_numbers", "_buffer_at", "_greatest_sums", "_law_bag", "_law_stirred", "_law_draw", "_law_alike", "_law_needs", "_law_taken", "_law_buffer", "_law_by_pieces", "_law_shape_right", "_law_small_right", "_law_great_right"]) (d := HandSHeadRun.topDef (OpenLaw.row PySem.Challenge.rw_evenbits_k51_least_buffers_and_their_pie).prog 28) (kwd := []) Ev.ob_eq
    (by kernel_rfl) (fun s => by kernel_rfl) Ev.run (by kernel_rfl) (by kernel_rfl) (by kernel_rfl) (by rfl) (by first | assumption | decide +kernel) (by decide +kernel) ⟨rfl, rfl, rfl, rfl, rfl, by decide +kernel⟩ ?hw ?hc
  case hw => w_witness2
  case hc =>
    refine L2.walk_ofE (l := PySem.Challenge.rw_evenbits_k51_least_buffers_and_their_pie) (n := 63) (k := 7) (x := "script") (CX := L2.CX0) rfl (by decide) (by kernel_rfl) ⟨rfl, by decide, by decide⟩ ?F (fun _ _ _ _ z => z)
    intro w mg fa h Y G hmg0
    obtain ⟨K, KX, c⟩ := Y
    have hmg : mg ("law" : PySem.Str) = some (.ref fa) := by
      have e : (HandSHeadRun.topDef (OpenLaw.row PySem.Challenge.rw_evenbits_k51_least_buffers_and_their_pie).prog 28).name = ("law" : PySem.Str) := by kernel_rfl
      rw [← e]
      exact hmg0
    obtain ⟨fd, hb, hF⟩ := Ev.law_facts (P := (PySem.Challenge.rw_evenbits_k51_least_buffers_and_their_pie).prog) (w := w) KX G hmg c
    exact ⟨K, fd, Ev.sp_law K, KX, hb, fun H a ns hl _ hS => ⟨a, ns, rfl, hS, hl, fun _ => rfl⟩, hF⟩
