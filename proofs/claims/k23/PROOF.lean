import PyProof.Rows.All
import Wide.All
import OpenK.AllK
import Wide.FinOn
import HandS.ForMost
import PySem.Challenge.RW_bandprint_k23_beats_by_hand
import HandS.Walk
import HandS.Wide
import HandS.IsInst
import HandS.More
import HandS.MakeKwOnly
import HandS.Defaults
import HandS.Strs
import HandS.Deep
import PyProof.P3Eq
import HandS.DictComp
import HandS.Iter
import HandS.Exc
import HandS.ExcOwn
import HandS.ExcInit
import HandS.ExcField
import HandS.ExcIs
import HandS.WordsExc
import KE.KExcInit
import PyProof.ExcBaseAll.LookupError
import HandS.Style
import HandS.Base
import HandS.Call
import HandS.Ends
import HandS.List
import PyProof.ListStr
import PyProof.CollectStr
import PyProof.ReprRoads
import KE.GoesMore
import KE.GoesZip
import KE.GoesEnum
import HandS.Zip
import PyProof.LongRange
import HandS.Replace
set_option Elab.async false
set_option linter.all false
/-! Where the text's defs stand. -/
namespace K23
open PySem L2
def topS (i : Nat) : Stmt := PySem.Challenge.pw_bandprint_k23_beats_by_hand.main.body.getD i (.Pass ⟨0, 0, 0, 0⟩)
abbrev s_wall : Stmt := topS 0
abbrev s_copied : Stmt := topS 2
abbrev s_NoBand_init : Stmt := inClass (topS 3) 0
abbrev s_NoPress_init : Stmt := inClass (topS 4) 0
abbrev s_NoWork_init : Stmt := inClass (topS 5) 0
abbrev s_NoCourse_init : Stmt := inClass (topS 6) 0
abbrev s_NoRows_init : Stmt := inClass (topS 7) 0
abbrev s_NoPlace_init : Stmt := inClass (topS 8) 0
abbrev s_is_whole : Stmt := topS 12
abbrev s_is_within : Stmt := topS 13
abbrev s_is_listed : Stmt := topS 14
abbrev s_are_letters : Stmt := topS 15
abbrev s_is_name : Stmt := topS 16
abbrev s_are_signs : Stmt := topS 17
abbrev s_is_sign : Stmt := topS 18
abbrev s_is_place : Stmt := topS 19
abbrev s_is_text_for : Stmt := topS 21
abbrev s_need_rows : Stmt := topS 22
abbrev s_rows_of : Stmt := topS 23
abbrev s_presses_at : Stmt := topS 25
abbrev s_gone_round : Stmt := topS 26
abbrev s_printed : Stmt := topS 27
abbrev s_signs_printed : Stmt := topS 28
abbrev s_beat_done : Stmt := topS 29
abbrev s_next_rows : Stmt := topS 30
abbrev s_run : Stmt := topS 31
abbrev s_is_long : Stmt := topS 39
abbrev s_is_pace : Stmt := topS 40
abbrev s_Band_init : Stmt := inClass (topS 41) 0
abbrev s_Band_eq : Stmt := inClass (topS 41) 1
abbrev s_Band_called : Stmt := inClass (topS 41) 2
abbrev s_Band_long : Stmt := inClass (topS 41) 3
abbrev s_Band_pace : Stmt := inClass (topS 41) 4
abbrev s_is_side_number : Stmt := topS 42
abbrev s_is_side : Stmt := topS 43
abbrev s_is_table : Stmt := topS 44
abbrev s_is_rhythm : Stmt := topS 45
abbrev s_Press_init : Stmt := inClass (topS 46) 0
abbrev s_Press_eq : Stmt := inClass (topS 46) 1
abbrev s_Press_above : Stmt := inClass (topS 46) 2
abbrev s_Press_below : Stmt := inClass (topS 46) 3
abbrev s_Press_table : Stmt := inClass (topS 46) 4
abbrev s_Press_rhythm : Stmt := inClass (topS 46) 5
abbrev s_are_bands : Stmt := topS 47
abbrev s_places_of : Stmt := topS 48
abbrev s_is_press_for : Stmt := topS 49
abbrev s_are_presses : Stmt := topS 50
abbrev s_Work_init : Stmt := inClass (topS 51) 0
abbrev s_Work_eq : Stmt := inClass (topS 51) 1
abbrev s_Work_len : Stmt := inClass (topS 51) 2
abbrev s_Work_signs : Stmt := inClass (topS 51) 3
abbrev s_Work_bands : Stmt := inClass (topS 51) 4
abbrev s_Work_presses : Stmt := inClass (topS 51) 5
abbrev s_Work_places : Stmt := inClass (topS 51) 6
abbrev s_Work_has_place : Stmt := inClass (topS 51) 7
abbrev s_Work_place_in : Stmt := inClass (topS 51) 8
abbrev s_Work_has_press : Stmt := inClass (topS 51) 9
abbrev s_Work_common : Stmt := inClass (topS 51) 10
abbrev s_is_put_beat : Stmt := topS 54
abbrev s_is_lift_beat : Stmt := topS 55
abbrev s_is_lift_word : Stmt := topS 56
abbrev s_is_put : Stmt := topS 57
abbrev s_is_lift : Stmt := topS 58
abbrev s_Course_init : Stmt := inClass (topS 59) 0
abbrev s_Course_eq : Stmt := inClass (topS 59) 1
abbrev s_Course_work : Stmt := inClass (topS 59) 2
abbrev s_Course_puts : Stmt := inClass (topS 59) 3
abbrev s_Course_lifts : Stmt := inClass (topS 59) 4
abbrev s_Course_works : Stmt := inClass (topS 59) 5
abbrev s_Course_is_up : Stmt := inClass (topS 59) 6
abbrev s_Course_laid : Stmt := inClass (topS 59) 7
abbrev s_Course_deed_beats : Stmt := inClass (topS 59) 8
abbrev s_law_feed : Stmt := topS 61
abbrev s_law_draw : Stmt := topS 62
abbrev s_law_pick : Stmt := topS 63
abbrev s_law_names : Stmt := topS 64
abbrev s_law_signs : Stmt := topS 65
abbrev s_law_table : Stmt := topS 66
abbrev s_law_raw : Stmt := topS 67
abbrev s_law_made : Stmt := topS 68
abbrev s_law_rows : Stmt := topS 69
abbrev s_law_events : Stmt := topS 70
abbrev s_law_lifted : Stmt := topS 71
abbrev s_law_beat : Stmt := topS 72
abbrev s_law_runs : Stmt := topS 73
abbrev s_law_course : Stmt := topS 74
abbrev s_law_working : Stmt := topS 75
abbrev s_law_are_rows : Stmt := topS 76
abbrev s_law_is_run : Stmt := topS 77
abbrev s_law_step_right : Stmt := topS 78
abbrev s_law : Stmt := topS 79
end K23
set_option Elab.async false
set_option linter.all false
set_option maxRecDepth 100000
/-! Texts as lists of codes; maps of signs as lists; what two ways of reckoning them have in common. -/
namespace Bp
open PySem

/-! ### texts -/
def tx (l : List Nat) : Str := ⟨l.toArray⟩
theorem tx_len (l : List Nat) : (tx l).length = l.length := by unfold tx Str.length; simp
theorem tx_list (l : List Nat) : (tx l).cps.toList = l := by unfold tx; simp
theorem tx_cps (z : Str) : tx z.cps.toList = z := by
  obtain ⟨a⟩ := z
  unfold tx
  simp
theorem tx_inj {a b : List Nat} (h : tx a = tx b) : a = b := by
  have e := congrArg (fun z : Str => z.cps.toList) h
  rw [← tx_list a, ← tx_list b]
  exact e
theorem tx_one (c : Nat) : (⟨#[c]⟩ : Str) = tx [c] := rfl
theorem tx_nil : ("" : Str) = tx [] := by decide
theorem str_ext {a b : Str} (h : a.cps.toList = b.cps.toList) : a = b := by
  rw [← tx_cps a, ← tx_cps b, h]
theorem append_list (a b : Str) : (a ++ b).cps.toList = a.cps.toList ++ b.cps.toList := by
  show (Str.append a b).cps.toList = _
  unfold Str.append
  simp
theorem tx_append (a b : List Nat) : tx a ++ tx b = tx (a ++ b) := str_ext (by rw [append_list, tx_list, tx_list, tx_list])
theorem foldl_empty (l : List Str) : ∀ acc : Array Nat, ((l.foldl (fun acc p => acc ++ (tx []).cps ++ p.cps) acc).toList) = acc.toList ++ (l.map fun p => p.cps.toList).flatten := by
  induction l with
  | nil => intro acc; simp
  | cons p l ih =>
    intro acc
    rw [List.foldl_cons, ih]
    unfold tx
    simp
/-- texts joined by nothing -/
theorem join_empty (l : List Str) : Txt.join (tx []) l = tx (l.map fun p => p.cps.toList).flatten := by
  apply str_ext
  rw [tx_list]
  show (Builtin.Str.glued (tx []) l).cps.toList = _
  unfold Builtin.Str.glued
  rw [foldl_empty]
  cases l with
  | nil => rfl
  | cons a l => rfl
theorem flatten_ones (cs : List Nat) : ((cs.map fun c => tx [c]).map fun p => p.cps.toList).flatten = cs := by
  induction cs with
  | nil => rfl
  | cons c cs ih =>
    rw [List.map_cons, List.map_cons, List.flatten_cons, ih, tx_list]
    rfl
theorem join_ones_tx (cs : List Nat) : Txt.join (tx []) (cs.map fun c => tx [c]) = tx cs := by rw [join_empty, flatten_ones]
theorem ones_weigh (cs : List Nat) : ((cs.map fun c => tx [c]).map (·.length)).sum = cs.length := by
  induction cs with
  | nil => rfl
  | cons c cs ih =>
    rw [List.map_cons, List.map_cons, List.sum_cons, ih, tx_len]
    show 1 + cs.length = cs.length + 1
    omega

/-- a text for each sign -/
def ones (l : List Nat) : List Str := l.map fun c => tx [c]
theorem ones_len (l : List Nat) : (ones l).length = l.length := List.length_map _
theorem ones_sum (l : List Nat) : ((ones l).map (·.length)).sum = l.length := ones_weigh l
theorem ones_join (l : List Nat) : Txt.join (tx []) (ones l) = tx l := join_ones_tx l
theorem ones_snoc (l : List Nat) (c : Nat) : ones (l ++ [c]) = ones l ++ [tx [c]] := by
  unfold ones
  rw [List.map_append]
  rfl

/-! ### the first place of a sign in a text -/
theorem occ_from (l : List Nat) (c : Nat) : ∀ (n i : Nat), i + n = l.length + 1 → (∀ j, j < i → l[j]? ≠ some c) → c ∈ l →
    (forIn (List.range' i n) ((#[] : Array Nat), 0) (StrLaws.occBody (tx l) (tx [c]) l.length 1)).run.fst.toList = [l.idxOf c] := by
  intro n
  have rest : ∀ (k : List Nat) (x : Nat) (f : Nat), (forIn k ((#[x] : Array Nat), f) (StrLaws.occBody (tx l) (tx [c]) l.length 1)).run.fst = #[x] := by
    intro k
    induction k with
    | nil => intro x f; rfl
    | cons a k ih =>
      intro x f
      rw [List.forIn_cons]
      unfold StrLaws.occBody
      rw [if_neg (by
        rintro ⟨⟨⟨h, _⟩, _⟩, _⟩
        simp at h)]
      exact ih x f
  induction n with
  | zero =>
    intro i hi no hc
    obtain ⟨j, hj⟩ := List.mem_iff_getElem?.mp hc
    have lt := (List.getElem?_eq_some_iff.mp hj).1
    exact absurd hj (no j (by omega))
  | succ n ih =>
    intro i hi no hc
    rw [List.range'_succ, List.forIn_cons]
    have one := StrLaws.subAt_one (tx l) c i
    rw [tx_list] at one
    have len : (tx l).length = l.length := tx_len l
    by_cases h : l[i]? = some c
    · obtain ⟨h1, h2⟩ := one.mpr h
      rw [len] at h1
      unfold StrLaws.occBody
      rw [if_pos ⟨⟨⟨by simp, Nat.zero_le _⟩, h1⟩, h2⟩]
      show (forIn (List.range' (i + 1) n) ((#[i] : Array Nat), i + (tx [c]).length) (StrLaws.occBody (tx l) (tx [c]) l.length 1)).run.fst.toList = _
      rw [rest]
      have e : l.idxOf c = i := by
        obtain ⟨lt, e⟩ := List.getElem?_eq_some_iff.mp h
        have le : l.idxOf c ≤ i := by
          rcases Nat.lt_or_ge i (l.idxOf c) with z | z
          · exact absurd e (by
              have := List.not_of_lt_findIdx (p := (· == c)) (xs := l) z
              simpa using this)
          · exact z
        rcases Nat.lt_or_ge (l.idxOf c) i with z | z
        · have hm : l.idxOf c < l.length := List.idxOf_lt_length_of_mem hc
          exact absurd (by rw [List.getElem?_eq_getElem hm, List.getElem_idxOf hm]) (no _ z)
        · omega
      rw [e]
    · have hn : ¬ (i + (tx [c]).length ≤ l.length ∧ Builtin.Str.subAt (tx l) (tx [c]) i = true) := fun z => h (one.mp (by rw [len]; exact z))
      unfold StrLaws.occBody
      rw [if_neg (fun z => hn ⟨z.1.2, z.2⟩)]
      refine ih (i + 1) (by omega) (fun j hj => ?_) hc
      rcases Nat.lt_or_ge j i with z | z
      · exact no j z
      · have : j = i := by omega
        rw [this]
        exact h
theorem occ_first {l : List Nat} {c : Nat} (h : c ∈ l) : Builtin.Str.occurrences (tx l) (tx [c]) 0 (tx l).length 1 = [l.idxOf c] := by
  rw [StrLaws.occ_eq, tx_len]
  exact occ_from l c (l.length + 1 - 0) 0 (by omega) (fun j hj => absurd hj (Nat.not_lt_zero _)) h
end Bp
set_option Elab.async false
set_option linter.all false
set_option maxRecDepth 100000
/-! Comprehensions that make texts of one sign each, and join them. -/
namespace Bp
open PySem PySem.Spec PyProof.Rows L2
theorem same_new {H : Hp} {p : Addr} {o : HO} (h : H p = none) : Same H (upd H p o) := fun b x e => by
  rw [upd_ne (ne_of_none e h)]
  exact e
/-- over any walk: res i is what is made behind i turns; the heap may grow -/
theorem lc_tx {J : It} {n : Nat} {Y : Nat → Hp → V → Hp → Prop} {g : TG} {tt : TT} {te : TE} {vs : List Nat} {σ : L2.St} {H : Hp} {D : Addr} {Qd : Hp → Prop}
    {G : Hp → Prop} (w : Walk J n G Y) (hG : ∀ H1, Same H H1 → G H1) (res : Nat → List Nat) (r0 : res 0 = []) (few : ∀ i, i ≤ n → (res i).length ≤ 1000) (nD : H D = none)
    (step : ∀ i x H1 H2 (Qy : V → Hp → Prop) (Qn : Hp → Prop), i < n → Same H H1 → Y i H1 x H2 → (∀ c H5, Same H1 H5 → res (i + 1) = res i ++ [c] → Qy (.str (tx [c])) H5) → (∀ H5, Same H1 H5 → res (i + 1) = res i → Qn H5) →
      g x (wipe σ vs) H2 fun σ2 H3 => wipe σ2 vs = wipe σ vs ∧ tt σ2 H3 fun b H4 => if b = true then te σ2 H4 Qy else Qn H4)
    (done : ∀ H', Same H H' → H' D = some (.lst ((ones (res n)).map V.str)) → Qd H') :
    ∃ W : Nat → Nat → Hp → Prop, (∃ m, W 0 m (upd H D (.lst []))) ∧ ∀ i m H, W i m H →
      (J.stop i H ∧ Qd H) ∨ (J.go i H ∧ ∃ Nx : Hp → Prop, (∀ H', Nx H' → ∃ m', m' < m ∧ W (i + 1) m' H') ∧ ∀ x H', J.yld i H x H' → g x (wipe σ vs) H' fun σ2 H2 => wipe σ2 vs = wipe σ vs ∧ tt σ2 H2 fun b H3 =>
        if b = true then te σ2 H3 fun y H4 => ∃ acc, H4 D = some (.lst acc) ∧ acc.length < sizeLine ∧ Nx (upd H4 D (.lst (acc ++ [y]))) else Nx H3) := by
  refine lc_it w (fun i H1 => Same H H1 ∧ H1 D = some (.lst ((ones (res i)).map V.str))) ⟨same_new nD, by rw [upd_same, r0]; rfl⟩ (fun i H1 _ z => hG H1 z.1) ?_ ?_
  · intro i x H1 H2 hi z y
    obtain ⟨sm, hD⟩ := z
    refine step i x H1 H2 _ _ hi sm y ?_ ?_
    · intro c H5 s5 e
      refine ⟨_, s5 _ _ hD, ?_, ?_, ?_⟩
      · rw [List.length_map, ones_len]
        exact small1000 (few i (Nat.le_of_lt hi))
      · exact fun b o q => by
          rw [upd_ne (ne_of_none q nD)]
          exact s5 _ _ (sm b o q)
      · rw [upd_same, e, ones_snoc, List.map_append]
        rfl
    · intro H5 s5 e
      exact ⟨sm.trans s5, by rw [e]; exact s5 _ _ hD⟩
  · rintro H1 ⟨sm, hD⟩
    exact done H1 sm hD
/-- no test: the item is kept -/
theorem yes_kept {σ : L2.St} {H : Hp} {A B : Hp → Prop} (h : A H) : tYes σ H fun b H4 => if b = true then A H4 else B H4 := by
  show if true = true then A H else B H
  rw [if_pos rfl]
  exact h
theorem yesOf {c : Bool} {A B : Prop} (hc : c = true) (h : A) : if c = true then A else B := by
  rw [if_pos hc]
  exact h
theorem noOf {c : Bool} {A B : Prop} (hc : c = false) (h : B) : if c = true then A else B := by
  rw [hc, if_neg Bool.false_ne_true]
  exact h
/-! ### lists of texts, and which of them is one -/
def txs (L : List (List Nat)) : List V := L.map fun m => V.str (tx m)
theorem txs_len (L : List (List Nat)) : (txs L).length = L.length := List.length_map _
theorem txs_get {L : List (List Nat)} {i : Nat} {m : List Nat} (h : L[i]? = some m) : (txs L)[i]? = some (.str (tx m)) := by
  unfold txs
  rw [List.getElem?_map, h]
  rfl
theorem txs_snoc (L : List (List Nat)) (m : List Nat) : txs (L ++ [m]) = txs L ++ [.str (tx m)] := by
  unfold txs
  rw [List.map_append]
  rfl
theorem txs_flat (L : List (List Nat)) : (txs L).all flatV = true := by
  unfold txs
  rw [List.all_map]
  exact List.all_eq_true.mpr fun _ _ => rfl
theorem eqV_tx (a b : List Nat) : eqV (.str (tx a)) (.str (tx b)) = decide (a = b) := by
  show (tx a == tx b) = _
  by_cases h : a = b
  · rw [h, decide_eq_true rfl]
    exact beq_self_eq_true _
  · rw [decide_eq_false h]
    exact beq_eq_false_iff_ne.mpr fun e => h (tx_inj e)
theorem inV_txs (m : List Nat) (L : List (List Nat)) : inV (.str (tx m)) (txs L) = decide (m ∈ L) := by
  unfold inV txs
  rw [List.any_map]
  by_cases h : m ∈ L
  · rw [decide_eq_true h]
    refine List.any_eq_true.mpr ⟨m, h, ?_⟩
    show eqV (.str (tx m)) (.str (tx m)) = true
    rw [eqV_tx]
    exact decide_eq_true rfl
  · rw [decide_eq_false h]
    refine List.any_eq_false.mpr fun x hx => ?_
    show ¬ eqV (.str (tx x)) (.str (tx m)) = true
    rw [eqV_tx]
    intro z
    exact h (of_decide_eq_true z ▸ hx)
theorem txs_at {m : List Nat} {L : List (List Nat)} (h : m ∈ L) : (txs L)[L.idxOf m]? = some (.str (tx m)) := by
  have lt := List.idxOf_lt_length_of_mem h
  exact txs_get (by rw [List.getElem?_eq_getElem lt, List.getElem_idxOf lt])
theorem txs_before {m : List Nat} {L : List (List Nat)} (i : Nat) (z : V) (hi : i < L.idxOf m) (e : (txs L)[i]? = some z) : eqV z (.str (tx m)) = false := by
  unfold txs at e
  rw [List.getElem?_map] at e
  cases q : L[i]? with
  | none =>
    rw [q] at e
    cases e
  | some x =>
    rw [q] at e
    cases e
    show eqV (.str (tx x)) (.str (tx m)) = false
    rw [eqV_tx]
    refine decide_eq_false fun z => ?_
    obtain ⟨lt, e2⟩ := List.getElem?_eq_some_iff.mp q
    have := List.not_of_lt_findIdx (p := (· == m)) (xs := L) hi
    rw [e2, z] at this
    simp at this
end Bp
set_option Elab.async false
set_option linter.all false
set_option maxRecDepth 100000
/-! Lists of texts and of numbers as data: whether two are equal. -/
namespace Bp
open PySem PySem.Spec PyProof.Rows L2
/-- small letters, each -/
def Low (l : List Nat) : Prop := ∀ c ∈ l, 97 ≤ c ∧ c ≤ 122
theorem canLay_texts {l : List (List Nat)} (h : ∀ m ∈ l, Low m) : PyData.canLayAll0 (l.map fun m => PyData.str (tx m)) = true := by
  induction l with
  | nil => rw [List.map_nil, PyData.canLayAll0]
  | cons m l ih =>
    rw [List.map_cons, PyData.canLayAll0, ih fun x hx => h x (List.mem_cons_of_mem _ hx), PyData.canLay0, Bool.and_true]
    have lm := h m (List.mem_cons_self ..)
    refine Array.all_eq_true_iff_forall_mem.mpr fun c hc => ?_
    have hc' : c ∈ m := by
      unfold tx at hc
      simpa using hc
    have := (lm c hc').2
    exact decide_eq_true (by omega)
theorem depth_texts (l : List (List Nat)) : PyData.depthAll (l.map fun m => PyData.str (tx m)) = 0 := by
  induction l with
  | nil => rw [List.map_nil, PyData.depthAll]
  | cons m l ih => rw [List.map_cons, PyData.depthAll, ih, PyData.depth]; rfl
theorem shaped_texts {l : List (List Nat)} (h : ∀ m ∈ l, Low m) : SeqAt.shaped (.list (l.map fun m => PyData.str (tx m))) = true := by
  unfold SeqAt.shaped
  rw [PyData.canLay0, canLay_texts h, PyData.depth, depth_texts, Bool.true_and]
  exact decide_eq_true (by decide)
theorem dp_texts {K : PySem.W.Frag} {H : Hp} {a : Addr} {l : List (List Nat)} (h : SqL K H a (l.map fun m => V.str (tx m))) : Dp K H (.ref a) (.list (l.map fun m => PyData.str (tx m))) := by
  refine .lst h ?_
  induction l with
  | nil => exact .nil
  | cons m l ih =>
    have all : ∀ l : List (List Nat), DpAll K H (l.map fun m => V.str (tx m)) (l.map fun m => PyData.str (tx m)) := by
      intro l
      induction l with
      | nil => exact .nil
      | cons m l ih => exact .cons (.str _) ih
    exact all _
theorem eqv_texts : ∀ (a b : List (List Nat)), PyData.eqvAll (a.map fun m => PyData.str (tx m)) (b.map fun m => PyData.str (tx m)) = decide (a = b)
  | [], [] => by rw [List.map_nil, PyData.eqvAll]; rfl
  | [], y :: b => by rw [List.map_nil, List.map_cons, PyData.eqvAll]; rfl
  | x :: a, [] => by rw [List.map_nil, List.map_cons, PyData.eqvAll]; rfl
  | x :: a, y :: b => by
    rw [List.map_cons, List.map_cons, PyData.eqvAll, eqv_texts a b, PyData.eqv]
    by_cases h : x = y
    · subst h
      by_cases h2 : a = b
      · subst h2
        simp
      · have : ¬ x :: a = x :: b := fun e => h2 (List.cons.inj e).2
        rw [decide_eq_false h2, decide_eq_false this, Bool.and_false]
    · have n1 : ¬ x :: a = y :: b := fun e => h (List.cons.inj e).1
      have n2 : (tx x == tx y) = false := beq_eq_false_iff_ne.mpr fun e => h (tx_inj e)
      rw [n2, decide_eq_false n1, Bool.false_and]
end Bp
set_option Elab.async false
set_option linter.all false
set_option maxRecDepth 100000
/-! A dict from which a law draws its digits: its cells, which one is next, what is left of a great one. -/
namespace Bp
open PySem PySem.Spec PyProof.Rows L2
theorem k_ca : ¬ (("cells" : Str) = "at") := by decide +kernel
theorem k_cl : ¬ (("cells" : Str) = "left") := by decide +kernel
theorem k_al : ¬ (("at" : Str) = "left") := by decide +kernel
def feedKvs (c : Addr) (a l : Int) : List (Key × V) := [(.inr "cells", .ref c), (.inr "at", .int a), (.inr "left", .int l)]
theorem inr_ne {x y : Str} (h : ¬ x = y) : ¬ (Sum.inr x : Key) = Sum.inr y := fun e => h (Sum.inr.inj e)
theorem feed_cells (c : Addr) (a l : Int) : valV (feedKvs c a l) (.inr "cells") = some (.ref c) := valV_pos rfl
theorem feed_at (c : Addr) (a l : Int) : valV (feedKvs c a l) (.inr "at") = some (.int a) := by
  unfold feedKvs
  rw [valV_neg (inr_ne k_ca), valV_pos rfl]
theorem feed_left (c : Addr) (a l : Int) : valV (feedKvs c a l) (.inr "left") = some (.int l) := by
  unfold feedKvs
  rw [valV_neg (inr_ne k_cl), valV_neg (inr_ne k_al), valV_pos rfl]
theorem feed_put_at (c : Addr) (a l b : Int) : putK (feedKvs c a l) (.inr "at") (.int b) = feedKvs c b l := by
  unfold putK
  rw [if_pos (by rw [valV_any, feed_at]; rfl)]
  unfold feedKvs
  simp only [List.map_cons, List.map_nil]
  rw [if_neg (inr_ne k_ca), if_pos True.intro, if_neg (inr_ne fun e => k_al e.symm)]
theorem feed_put_left (c : Addr) (a l b : Int) : putK (feedKvs c a l) (.inr "left") (.int b) = feedKvs c a b := by
  unfold putK
  rw [if_pos (by rw [valV_any, feed_left]; rfl)]
  unfold feedKvs
  simp only [List.map_cons, List.map_nil]
  rw [if_neg (inr_ne k_cl), if_neg (inr_ne k_al), if_pos True.intro]
theorem feed_made (c : Addr) (a l : Int) : mergeK [] (feedKvs c a l) = feedKvs c a l := by
  have e1 : putK ([] : List (Key × V)) (.inr "cells") (.ref c) = [(.inr "cells", .ref c)] := putK_new _ rfl
  have e2 : putK ([(.inr "cells", .ref c)] : List (Key × V)) (.inr "at") (.int a) = [(.inr "cells", .ref c), (.inr "at", .int a)] := putK_new _ (by rw [valV_neg (inr_ne k_ca)]; rfl)
  have e3 : putK ([(.inr "cells", .ref c), (.inr "at", .int a)] : List (Key × V)) (.inr "left") (.int l) = feedKvs c a l := putK_new _ (by rw [valV_neg (inr_ne k_cl), valV_neg (inr_ne k_al)]; rfl)
  show putK (putK (putK ([] : List (Key × V)) (.inr "cells") (.ref c)) (.inr "at") (.int a)) (.inr "left") (.int l) = _
  rw [e1, e2, e3]
/-- a feed at f, of which at most n cells have been drawn -/
structure Fed where
  f : Addr
  c : Addr
  ns : List Int
def FeedAt (K : PySem.W.Frag) (H : Hp) (g : Fed) (n : Nat) : Prop :=
  ∃ (a l : Int), H g.f = some (.dK (feedKvs g.c a l)) ∧ SqL K H g.c (g.ns.map V.int) ∧ 0 ≤ a ∧ a ≤ n ∧ 0 ≤ l
/-- all but what is at f is as it was -/
def Kept (f : Addr) (H H' : Hp) : Prop := ∀ b o, b ≠ f → H b = some o → H' b = some o
theorem Kept.refl (f : Addr) (H : Hp) : Kept f H H := fun _ _ _ e => e
theorem Kept.trans {f : Addr} {H H1 H2 : Hp} (a : Kept f H H1) (b : Kept f H1 H2) : Kept f H H2 := fun c o n e => b c o n (a c o n e)
theorem Kept.of {f : Addr} {H H1 : Hp} (a : Same H H1) : Kept f H H1 := fun b o _ e => a b o e
theorem Kept.put {f : Addr} {H : Hp} (o : HO) : Kept f H (upd H f o) := fun b u n e => by
  rw [upd_ne n]
  exact e
theorem Kept.seq {K : PySem.W.Frag} {f a : Addr} {H H1 : Hp} {kvs : List (Key × V)} {xs : List V} (k : Kept f H H1) (hf : H f = some (.dK kvs)) (h : SqL K H a xs) : SqL K H1 a xs := by
  rcases h with (h | ⟨o, h⟩) | h
  · exact .inl (.inl (k _ _ (ne_of h hf (by intro z; cases z)) h))
  · exact .inl (.inr ⟨o, k _ _ (ne_of h hf (by intro z; cases z)) h⟩)
  · exact .inr h
theorem FeedAt.le {K : PySem.W.Frag} {H : Hp} {g : Fed} {n m : Nat} (h : FeedAt K H g n) (le : n ≤ m) : FeedAt K H g m := by
  obtain ⟨a, l, e, s, h0, h1, h2⟩ := h
  exact ⟨a, l, e, s, h0, by omega, h2⟩
theorem FeedAt.same {K : PySem.W.Frag} {H H' : Hp} {g : Fed} {n : Nat} (h : FeedAt K H g n) (s : Same H H') : FeedAt K H' g n := by
  obtain ⟨a, l, e, q, h0, h1, h2⟩ := h
  exact ⟨a, l, s _ _ e, s.seq q, h0, h1, h2⟩
theorem FeedAt.dict {K : PySem.W.Frag} {H : Hp} {g : Fed} {n : Nat} (h : FeedAt K H g n) : ∃ kvs, H g.f = some (.dK kvs) := by
  obtain ⟨a, l, e, _⟩ := h
  exact ⟨_, e⟩
theorem FeedAt.ne {K : PySem.W.Frag} {H : Hp} {g : Fed} {b : Addr} {n : Nat} (h : FeedAt K H g n) (hb : H b = none) : b ≠ g.f := by
  obtain ⟨kvs, e⟩ := h.dict
  exact fun z => by
    rw [z, e] at hb
    cases hb
/-- it lives on where a thing made later is changed -/
theorem FeedAt.put {K : PySem.W.Frag} {H H0 : Hp} {g : Fed} {D : Addr} {n m : Nat} {o : HO} (h0 : FeedAt K H0 g m) (e : H0 D = none) (h : FeedAt K H g n) : FeedAt K (upd H D o) g n := by
  have nf := h0.ne e
  obtain ⟨a, l, ef, s, b0, b1, b2⟩ := h
  obtain ⟨_, _, _, s0, _⟩ := h0
  refine ⟨a, l, by rw [upd_ne (fun z => nf z.symm)]; exact ef, ?_, b0, b1, b2⟩
  rcases s with (s | ⟨o2, s⟩) | s
  · by_cases c : g.c = D
    · rcases s0 with (s0 | ⟨o2, s0⟩) | s0
      · rw [c, e] at s0
        cases s0
      · rw [c, e] at s0
        cases s0
      · exact .inr s0
    · exact .inl (.inl (by rw [upd_ne c]; exact s))
  · by_cases c : g.c = D
    · rcases s0 with (s0 | ⟨o2, s0⟩) | s0
      · rw [c, e] at s0
        cases s0
      · rw [c, e] at s0
        cases s0
      · exact .inr s0
    · exact .inl (.inr ⟨o2, by rw [upd_ne c]; exact s⟩)
  · exact .inr s
/-! ### lists of whole numbers as data -/
theorem dp_ints {K : PySem.W.Frag} {H : Hp} {a : Addr} {ns : List Int} (h : SqL K H a (ns.map V.int)) : Dp K H (.ref a) (.list (ns.map PyData.int)) := by
  have all : ∀ l : List Int, DpAll K H (l.map V.int) (l.map PyData.int) := by
    intro l
    induction l with
    | nil => exact .nil
    | cons m l ih => exact .cons (.int _) ih
  exact .lst h (all ns)
theorem lay_ints (ns : List Int) : PyData.canLayAll0 (ns.map PyData.int) = true := by
  induction ns with
  | nil => rw [List.map_nil, PyData.canLayAll0]
  | cons m l ih => rw [List.map_cons, PyData.canLayAll0, ih, PyData.canLay0]; rfl
theorem depth_ints (ns : List Int) : PyData.depthAll (ns.map PyData.int) = 0 := by
  induction ns with
  | nil => rw [List.map_nil, PyData.depthAll]
  | cons m l ih => rw [List.map_cons, PyData.depthAll, ih, PyData.depth]; rfl
theorem shaped_ints (ns : List Int) : SeqAt.shaped (.list (ns.map PyData.int)) = true := by
  unfold SeqAt.shaped
  rw [PyData.canLay0, lay_ints, PyData.depth, depth_ints, Bool.true_and]
  exact decide_eq_true (by decide)
theorem eqv_nil (ns : List Int) : PyData.eqv (.list (ns.map PyData.int)) (.list []) = decide (ns = []) := by
  cases ns with
  | nil => rw [List.map_nil, PyData.eqv, PyData.eqvAll]; rfl
  | cons m l => rw [List.map_cons, PyData.eqv, PyData.eqvAll]; rfl
theorem get_cells {H : Hp} {f c : Addr} {a l : Int} (e : H f = some (.dK (feedKvs c a l))) : DGet H f (.str "cells") (some (.ref c)) := feed_cells c a l ▸ DGet.k (k := Sum.inr "cells") e
theorem get_at {H : Hp} {f c : Addr} {a l : Int} (e : H f = some (.dK (feedKvs c a l))) : DGet H f (.str "at") (some (.int a)) := feed_at c a l ▸ DGet.k (k := Sum.inr "at") e
theorem get_left {H : Hp} {f c : Addr} {a l : Int} (e : H f = some (.dK (feedKvs c a l))) : DGet H f (.str "left") (some (.int l)) := feed_left c a l ▸ DGet.k (k := Sum.inr "left") e
theorem three_few (c : Addr) (a l : Int) : (feedKvs c a l).length < sizeLine := by show 3 < sizeLine; decide
theorem put_at {H : Hp} {f c : Addr} {a l b : Int} (e : H f = some (.dK (feedKvs c a l))) : DPut H f (.str "at") (.int b) (upd H f (.dK (feedKvs c b l))) := feed_put_at c a l b ▸ DPut.k (k := Sum.inr "at") e (three_few c a l)
theorem put_left {H : Hp} {f c : Addr} {a l b : Int} (e : H f = some (.dK (feedKvs c a l))) : DPut H f (.str "left") (.int b) (upd H f (.dK (feedKvs c a b))) := feed_put_left c a l b ▸ DPut.k (k := Sum.inr "left") e (three_few c a l)
end Bp
set_option Elab.async false
set_option linter.all false
set_option maxRecDepth 100000
/-! Comprehensions of any values over any walk, the heap growing. -/
namespace Bp
open PySem PySem.Spec PyProof.Rows L2
/-- all that is no list stays -/
def Kn (H H' : Hp) : Prop := ∀ b o, (∀ xs, o ≠ HO.lst xs) → H b = some o → H' b = some o
theorem Kn.of {H H' : Hp} (s : Same H H') : Kn H H' := fun b o _ e => s b o e
theorem Kn.refl (H : Hp) : Kn H H := fun _ _ _ e => e
theorem Kn.trans {H H1 H2 : Hp} (a : Kn H H1) (b : Kn H1 H2) : Kn H H2 := fun c o n e => b c o n (a c o n e)
theorem Kn.put {H : Hp} {D : Addr} {xs ys : List V} (e : H D = some (.lst xs)) : Kn H (upd H D (.lst ys)) := fun b o n eb => by
  have ne : b ≠ D := fun z => by
    rw [z, e] at eb
    exact n _ (Option.some.inj eb).symm
  rw [upd_ne ne]
  exact eb
theorem Kn.new {H : Hp} {D : Addr} {o : HO} (e : H D = none) : Kn H (upd H D o) := Kn.of (same_new e)
/-- res i is what is made behind i turns; it hangs on no list -/
theorem lc_v {J : It} {n : Nat} {Y : Nat → Hp → V → Hp → Prop} {g : TG} {tt : TT} {te : TE} {vs : List Nat} {σ : L2.St} {H : Hp} {D : Addr} {Qd : Hp → Prop}
    {G : Hp → Prop} (w : Walk J n G Y) (hG : ∀ H1, Same H H1 → G H1) (res : Nat → Hp → List V → Prop) (r0 : ∀ H1, res 0 H1 []) (few : ∀ i H1 l, i ≤ n → res i H1 l → l.length ≤ 1000) (keep : ∀ i H1 H2 l, Kn H1 H2 → res i H1 l → res i H2 l) (nD : H D = none)
    (step : ∀ i x H1 H2 l (Qy : V → Hp → Prop) (Qn : Hp → Prop), i < n → Same H H1 → res i H1 l → Y i H1 x H2 → (∀ y H5, Same H1 H5 → res (i + 1) H5 (l ++ [y]) → Qy y H5) → (∀ H5, Same H1 H5 → res (i + 1) H5 l → Qn H5) →
      g x (wipe σ vs) H2 fun σ2 H3 => wipe σ2 vs = wipe σ vs ∧ tt σ2 H3 fun b H4 => if b = true then te σ2 H4 Qy else Qn H4)
    (done : ∀ H' l, Same H H' → res n H' l → H' D = some (.lst l) → Qd H') :
    ∃ W : Nat → Nat → Hp → Prop, (∃ m, W 0 m (upd H D (.lst []))) ∧ ∀ i m H, W i m H →
      (J.stop i H ∧ Qd H) ∨ (J.go i H ∧ ∃ Nx : Hp → Prop, (∀ H', Nx H' → ∃ m', m' < m ∧ W (i + 1) m' H') ∧ ∀ x H', J.yld i H x H' → g x (wipe σ vs) H' fun σ2 H2 => wipe σ2 vs = wipe σ vs ∧ tt σ2 H2 fun b H3 =>
        if b = true then te σ2 H3 fun y H4 => ∃ acc, H4 D = some (.lst acc) ∧ acc.length < sizeLine ∧ Nx (upd H4 D (.lst (acc ++ [y]))) else Nx H3) := by
  refine lc_it w (fun i H1 => Same H H1 ∧ ∃ l, H1 D = some (.lst l) ∧ res i H1 l) ⟨same_new nD, [], upd_same, r0 _⟩ (fun i H1 _ z => hG H1 z.1) ?_ ?_
  · rintro i x H1 H2 hi ⟨sm, l, hD, hl⟩ y
    refine step i x H1 H2 l _ _ hi sm hl y ?_ ?_
    · intro v H5 s5 r5
      refine ⟨l, s5 _ _ hD, small1000 (few i _ _ (Nat.le_of_lt hi) hl), fun b o q => ?_, l ++ [v], upd_same, keep _ _ _ _ (Kn.put (s5 _ _ hD)) r5⟩
      rw [upd_ne (ne_of_none q nD)]
      exact s5 _ _ (sm b o q)
    · intro H5 s5 r5
      exact ⟨sm.trans s5, l, s5 _ _ hD, r5⟩
  · rintro H1 ⟨sm, l, hD, hl⟩
    exact done H1 l sm hl hD
/-- a comprehension of tests that all hold, for all(..) -/
theorem lc_true {J : It} {n : Nat} {Y : Nat → Hp → V → Hp → Prop} {g : TG} {te : TE} {vs : List Nat} {σ : L2.St} {H : Hp} {D : Addr} {Qd : Hp → Prop}
    {G : Hp → Prop} (w : Walk J n G Y) (hG : ∀ H1, Same H H1 → G H1) (few : n ≤ 1000) (nD : H D = none)
    (step : ∀ i x H1 H2 (Qy : V → Hp → Prop), i < n → Same H H1 → Y i H1 x H2 → (∀ H5, Same H1 H5 → Qy (.bl true) H5) → g x (wipe σ vs) H2 fun σ2 H3 => wipe σ2 vs = wipe σ vs ∧ te σ2 H3 Qy)
    (done : ∀ H', Same H H' → H' D = some (.lst ((List.replicate n true).map V.bl)) → Qd H')
    (mono : ∀ (v : V) (σ0 : L2.St) (H0 : Hp) (A B : L2.St → Hp → Prop), (∀ s h, A s h → B s h) → g v σ0 H0 A → g v σ0 H0 B) :
    ∃ W : Nat → Nat → Hp → Prop, (∃ m, W 0 m (upd H D (.lst []))) ∧ ∀ i m H, W i m H →
      (J.stop i H ∧ Qd H) ∨ (J.go i H ∧ ∃ Nx : Hp → Prop, (∀ H', Nx H' → ∃ m', m' < m ∧ W (i + 1) m' H') ∧ ∀ x H', J.yld i H x H' → g x (wipe σ vs) H' fun σ2 H2 => wipe σ2 vs = wipe σ vs ∧ tYes σ2 H2 fun b H3 =>
        if b = true then te σ2 H3 fun y H4 => ∃ acc, H4 D = some (.lst acc) ∧ acc.length < sizeLine ∧ Nx (upd H4 D (.lst (acc ++ [y]))) else Nx H3) := by
  refine lc_v w hG (fun i _ l => l = (List.replicate i true).map V.bl) (fun _ => rfl) (fun i _ l hi h => ?_) (fun _ _ _ _ _ h => h) nD ?_ ?_
  · rw [h, List.length_map, List.length_replicate]
    omega
  · intro i x H1 H2 l Qy Qn hi sm hl y qy _
    refine mono _ _ _ _ _ (fun s h z => ⟨z.1, yes_kept z.2⟩) (step i x H1 H2 Qy hi sm y fun H5 s5 => qy _ _ s5 ?_)
    rw [hl, List.replicate_succ', List.map_append]
    rfl
  · intro H' l sm hl hD
    exact done H' sm (hl ▸ hD)
theorem mono_name {i : Nat} : ∀ (v : V) (σ0 : L2.St) (H0 : Hp) (A B : L2.St → Hp → Prop), (∀ s h, A s h → B s h) → gName i v σ0 H0 A → gName i v σ0 H0 B := fun _ _ _ _ _ h z => h _ _ z
theorem all_true (n : Nat) : (List.replicate n true).all id = true := List.all_eq_true.mpr fun x hx => List.eq_of_mem_replicate hx
/-- any loop over a walk: B, what is asked of a turn -/
theorem walk_w {J : It} {n : Nat} {G : Hp → Prop} {Y : Nat → Hp → V → Hp → Prop} {H0 : Hp} {Qd : Hp → Prop} {B : (Hp → Prop) → V → Hp → Prop} (w : Walk J n G Y) (Pv : Nat → Hp → Prop) (h0 : Pv 0 H0) (hG : ∀ i H, i ≤ n → Pv i H → G H)
    (turn : ∀ i x H H', i < n → Pv i H → Y i H x H' → B (Pv (i + 1)) x H') (done : ∀ H, Pv n H → Qd H) :
    ∃ W : Nat → Nat → Hp → Prop, (∃ m, W 0 m H0) ∧ ∀ i m H, W i m H → (J.stop i H ∧ Qd H) ∨ (J.go i H ∧ ∃ Nx : Hp → Prop, (∀ H', Nx H' → ∃ m', m' < m ∧ W (i + 1) m' H') ∧ ∀ x H', J.yld i H x H' → B Nx x H') := by
  refine ⟨fun i m H => i + m = n ∧ Pv i H, ⟨n, Nat.zero_add n, h0⟩, ?_⟩
  rintro i m H ⟨im, p⟩
  have here := hG i H (by omega) p
  by_cases last : m = 0
  · obtain rfl : i = n := by omega
    exact .inl ⟨w.stops H here, done H p⟩
  · exact .inr ⟨w.goes i H (by omega) here, Pv (i + 1), fun H' p' => ⟨m - 1, by omega, by omega, p'⟩, fun x H' y => turn i x H H' (by omega) p (w.yields i H x H' (by omega) here y)⟩
/-! ### values one by one that stand for things -/
def Each {α : Type} (R : Hp → V → α → Prop) (H : Hp) (l : List V) (xs : List α) : Prop := l.length = xs.length ∧ ∀ (i : Nat) v x, l[i]? = some v → xs[i]? = some x → R H v x
section
variable {α : Type} {R : Hp → V → α → Prop} {H H' : Hp} {l m : List V} {xs ys : List α}
theorem Each.nil : Each R H [] [] := ⟨rfl, fun i v x h => by simp at h⟩
theorem Each.snoc (h : Each R H l xs) {v : V} {x : α} (r : R H v x) : Each R H (l ++ [v]) (xs ++ [x]) := by
  refine ⟨by rw [List.length_append, List.length_append, h.1]; rfl, fun i u y hu hy => ?_⟩
  rcases Nat.lt_or_ge i l.length with lt | ge
  · rw [List.getElem?_append_left lt] at hu
    rw [List.getElem?_append_left (by rw [← h.1]; exact lt)] at hy
    exact h.2 i u y hu hy
  · rw [List.getElem?_append_right ge] at hu
    rw [List.getElem?_append_right (by rw [← h.1]; exact ge)] at hy
    have i0 : i - l.length = 0 := by
      have := (List.getElem?_eq_some_iff.mp hu).1
      simp at this
      omega
    rw [i0] at hu
    rw [← h.1, i0] at hy
    cases hu
    cases hy
    exact r
theorem Each.imp (h : Each R H l xs) (f : ∀ v x, R H v x → R H' v x) : Each R H' l xs := ⟨h.1, fun i v x e1 e2 => f v x (h.2 i v x e1 e2)⟩
theorem Each.at_ (h : Each R H l xs) {i : Nat} {v : V} (e : l[i]? = some v) : ∃ x, xs[i]? = some x ∧ R H v x := by
  have lt : i < xs.length := by
    rw [← h.1]
    exact (List.getElem?_eq_some_iff.mp e).1
  exact ⟨xs[i], List.getElem?_eq_getElem lt, h.2 i v _ e (List.getElem?_eq_getElem lt)⟩
theorem Each.of (h : Each R H l xs) {i : Nat} {x : α} (e : xs[i]? = some x) : ∃ v, l[i]? = some v ∧ R H v x := by
  have lt : i < l.length := by
    rw [h.1]
    exact (List.getElem?_eq_some_iff.mp e).1
  exact ⟨l[i], List.getElem?_eq_getElem lt, h.2 i _ x (List.getElem?_eq_getElem lt) e⟩
end
end Bp
set_option Elab.async false
set_option linter.all false
/-! Maps of signs, done again and again. -/
namespace K33
open Bp
/-- first one, then other -/
def thn (s one other : List Nat) : List Nat := one.map fun c => other.getD (s.idxOf c) 0
/-- a map of the signs s -/
def IsMap (s m : List Nat) : Prop := m.length = s.length ∧ ∀ c ∈ m, c ∈ s
theorem isMap_self (s : List Nat) : IsMap s s := ⟨rfl, fun _ h => h⟩
theorem getD_mem {l : List Nat} {i : Nat} (h : i < l.length) : l.getD i 0 ∈ l := by
  rw [List.getD_eq_getElem?_getD, List.getElem?_eq_getElem h]
  exact List.getElem_mem h
theorem isMap_thn {s one other : List Nat} (h1 : IsMap s one) (h2 : IsMap s other) : IsMap s (thn s one other) := by
  refine ⟨by unfold thn; rw [List.length_map]; exact h1.1, fun c hc => ?_⟩
  obtain ⟨d, hd, rfl⟩ := List.mem_map.mp hc
  exact h2.2 _ (getD_mem (by rw [h2.1]; exact List.idxOf_lt_length_of_mem (h1.2 d hd)))
/-- one done n times -/
def pw (s one : List Nat) : Nat → List Nat
  | 0 => s
  | n + 1 => thn s (pw s one n) one
theorem isMap_pw {s one : List Nat} (h : IsMap s one) : ∀ n, IsMap s (pw s one n)
  | 0 => isMap_self s
  | n + 1 => isMap_thn (isMap_pw h n) h
/-- one done 0, 1, .. n - 1 times -/
def pws (s one : List Nat) (n : Nat) : List (List Nat) := (List.range n).map (pw s one)
theorem pws_len (s one : List Nat) (n : Nat) : (pws s one n).length = n := by unfold pws; rw [List.length_map, List.length_range]
theorem pws_succ (s one : List Nat) (n : Nat) : pws s one (n + 1) = pws s one n ++ [pw s one n] := by
  unfold pws
  rw [List.range_succ, List.map_append]
  rfl
theorem pws_get {s one : List Nat} {n i : Nat} (h : i < n) : (pws s one n)[i]? = some (pw s one i) := by
  unfold pws
  rw [List.getElem?_map, List.getElem?_range h]
  rfl
/-- n is the first number at which it comes again -/
def Cyc (s one : List Nat) (n : Nat) : Prop := pw s one n ∈ pws s one n ∧ ∀ m, m < n → pw s one m ∉ pws s one m
theorem Cyc.one {s o : List Nat} {n m : Nat} (h : Cyc s o n) (h' : Cyc s o m) : n = m := by
  rcases Nat.lt_trichotomy n m with z | z | z
  · exact absurd h.1 (h'.2 n z)
  · exact z
  · exact absurd h'.1 (h.2 m z)
theorem Cyc.pos {s o : List Nat} {n : Nat} (h : Cyc s o n) : 1 ≤ n := by
  rcases n with _ | n
  · have := h.1
    unfold pws at this
    simp at this
  · omega
/-! ### they come again -/
def alls (s : List Nat) : Nat → List (List Nat)
  | 0 => [[]]
  | k + 1 => s.flatMap fun c => (alls s k).map (c :: ·)
theorem alls_len (s : List Nat) : ∀ k, (alls s k).length = s.length ^ k
  | 0 => rfl
  | k + 1 => by
    unfold alls
    rw [List.length_flatMap]
    have : (s.map fun a => ((alls s k).map (a :: ·)).length) = s.map fun _ => s.length ^ k := List.map_congr_left fun a _ => by rw [List.length_map, alls_len s k]
    rw [this]
    have sum : ∀ (l : List Nat) (x : Nat), (l.map fun _ => x).sum = l.length * x := by
      intro l x
      induction l with
      | nil => simp
      | cons a l ih => rw [List.map_cons, List.sum_cons, ih, List.length_cons, Nat.succ_mul, Nat.add_comm]
    rw [sum, Nat.pow_succ, Nat.mul_comm]
theorem mem_alls {s : List Nat} : ∀ {m : List Nat}, (∀ c ∈ m, c ∈ s) → m ∈ alls s m.length
  | [], _ => List.mem_singleton.mpr rfl
  | c :: m, h => by
    show c :: m ∈ s.flatMap fun c => (alls s m.length).map (c :: ·)
    exact List.mem_flatMap.mpr ⟨c, h c (List.mem_cons_self ..), List.mem_map.mpr ⟨m, mem_alls fun d hd => h d (List.mem_cons_of_mem _ hd), rfl⟩⟩
theorem nodup_le {α : Type} [DecidableEq α] : ∀ {l m : List α}, l.Nodup → (∀ x ∈ l, x ∈ m) → l.length ≤ m.length
  | [], _, _, _ => Nat.zero_le _
  | a :: l, m, nd, h => by
    obtain ⟨na, nd'⟩ := List.nodup_cons.mp nd
    have ha : a ∈ m := h a (List.mem_cons_self ..)
    have le := nodup_le (l := l) (m := m.erase a) nd' fun x hx => (List.mem_erase_of_ne (by intro e; subst e; exact na hx)).mpr (h x (List.mem_cons_of_mem _ hx))
    rw [List.length_erase_of_mem ha] at le
    have : 0 < m.length := List.length_pos_of_mem ha
    rw [List.length_cons]
    omega
theorem pws_nodup {s one : List Nat} : ∀ {n : Nat}, (∀ m, m < n → pw s one m ∉ pws s one m) → (pws s one n).Nodup
  | 0, _ => by unfold pws; exact List.nodup_nil
  | n + 1, h => by
    rw [pws_succ]
    refine List.nodup_append.mpr ⟨pws_nodup fun m hm => h m (by omega), List.nodup_cons.mpr ⟨by simp, List.nodup_nil⟩, ?_⟩
    intro a ha b hb e
    rw [List.mem_singleton.mp hb] at e
    exact h n (Nat.lt_succ_self _) (e ▸ ha)
theorem pws_few {s one : List Nat} (hs : s.length ≤ 4) (h : IsMap s one) {n : Nat} (no : ∀ m, m < n → pw s one m ∉ pws s one m) : n ≤ 256 := by
  have nd := pws_nodup no
  have le := nodup_le nd (m := alls s s.length) fun x hx => by
    unfold pws at hx
    obtain ⟨i, _, rfl⟩ := List.mem_map.mp hx
    have := isMap_pw h i
    rw [← this.1]
    exact mem_alls this.2
  rw [pws_len, alls_len] at le
  have : s.length ^ s.length ≤ 4 ^ 4 := Nat.le_trans (Nat.pow_le_pow_left hs _) (Nat.pow_le_pow_right (by decide) hs)
  omega
/-! ### one to one: sorted it is the signs just where each sign is there -/
/-- the signs: unlike, rising, two to four -/
structure Signs (s : List Nat) : Prop where
  up : s.Pairwise (· < ·)
  lo : 2 ≤ s.length
  hi : s.length ≤ 4
  small : ∀ c ∈ s, 97 ≤ c ∧ c ≤ 122
theorem Signs.nd {s : List Nat} (h : Signs s) : s.Nodup := h.up.imp fun {a b} z e => by omega
theorem perm_of_all {s m : List Nat} (nd : s.Nodup) (hm : IsMap s m) (all : ∀ c ∈ s, c ∈ m) : m.Perm s := by
  -- s lies in m, and both are as long
  have key : ∀ (s m : List Nat), s.Nodup → m.length = s.length → (∀ c ∈ s, c ∈ m) → m.Perm s := by
    intro s
    induction s with
    | nil =>
      intro m _ hl _
      rw [List.length_eq_zero_iff.mp hl]
    | cons a s ih =>
      intro m nd hl h
      obtain ⟨na, nd'⟩ := List.nodup_cons.mp nd
      have ha : a ∈ m := h a (List.mem_cons_self ..)
      have p := List.perm_cons_erase ha
      refine p.trans (List.Perm.cons a (ih _ nd' ?_ ?_))
      · rw [List.length_erase_of_mem ha, hl]
        rfl
      · intro c hc
        exact (List.mem_erase_of_ne (by intro e; subst e; exact na hc)).mpr (h c (List.mem_cons_of_mem _ hc))
  exact key s m nd hm.1 all
/-! ### sorted texts of one sign each -/
open PySem PyProof.Rows in
theorem rising_ones : ∀ (r : List Nat) (p : Nat), risingS (tx [p]) (ones r) = true → (p :: r).Pairwise (· ≤ ·)
  | [], p, _ => List.pairwise_singleton _ _
  | x :: r, p, h => by
    have h' : (!PySem.Spec.ltCps (tx [x]).cps.toList (tx [p]).cps.toList && risingS (tx [x]) (ones r)) = true := h
    obtain ⟨h1, h2⟩ := Bool.and_eq_true_iff.mp h'
    have ih := rising_ones r x h2
    have le : p ≤ x := by
      rw [ltCps_eq, tx_list, tx_list] at h1
      have : ¬ ([x] < [p]) := by
        intro z
        rw [decide_eq_true z] at h1
        cases h1
      rcases Nat.lt_or_ge x p with z | z
      · exact absurd (List.Lex.rel z) this
      · exact z
    refine List.pairwise_cons.mpr ⟨fun y hy => ?_, ih⟩
    rcases List.mem_cons.mp hy with rfl | hy
    · exact le
    · exact Nat.le_trans le ((List.pairwise_cons.mp ih).1 y hy)
open PySem PyProof.Rows in
theorem sorted_ones : ∀ {r : List Nat}, sortedS (ones r) = true → r.Pairwise (· ≤ ·)
  | [], _ => List.Pairwise.nil
  | x :: r, h => rising_ones r x h
open PySem in
theorem ones_inj : ∀ {a b : List Nat}, ones a = ones b → a = b
  | [], [], _ => rfl
  | [], _ :: _, h => by cases h
  | _ :: _, [], h => by cases h
  | x :: a, y :: b, h => by
    have h' : tx [x] :: ones a = tx [y] :: ones b := h
    obtain ⟨h1, h2⟩ := List.cons.inj h'
    have e := tx_inj h1
    rw [List.singleton_inj.mp e, ones_inj h2]
open PySem in
theorem perm_ones {ys : List Str} {m : List Nat} (h : ys.Perm (ones m)) : ∃ zs, ys = ones zs ∧ zs.Perm m := by
  refine ⟨ys.map fun y => y.cps.toList.headD 0, ?_, ?_⟩
  · unfold ones
    rw [List.map_map]
    refine (List.map_id ys).symm.trans (List.map_congr_left fun y hy => ?_)
    obtain ⟨c, _, rfl⟩ := List.mem_map.mp (h.mem_iff.mp hy)
    show tx [c] = tx [(tx [c]).cps.toList.headD 0]
    rw [tx_list]
    rfl
  · have p := h.map fun y : Str => y.cps.toList.headD 0
    unfold ones at p
    rw [List.map_map] at p
    have e : m.map ((fun y : Str => y.cps.toList.headD 0) ∘ fun c => tx [c]) = m := by
      refine (List.map_congr_left fun c _ => ?_).trans (List.map_id m)
      show (tx [c]).cps.toList.headD 0 = c
      rw [tx_list]
      rfl
    rwa [e] at p
open PySem PyProof.Rows in
/-- sorted, a map is the signs just where each sign is in it -/
theorem sorted_is {s m : List Nat} (hs : Signs s) (hm : IsMap s m) {ys : List Str} (p : ys.Perm (ones m)) (srt : sortedS ys = true) : ys = ones s ↔ ∀ c ∈ s, c ∈ m := by
  obtain ⟨zs, rfl, pz⟩ := perm_ones p
  constructor
  · intro e c hc
    rw [← ones_inj e] at hc
    exact pz.mem_iff.mp hc
  · intro all
    have pm := perm_of_all hs.nd hm all
    have up := sorted_ones srt
    have us : s.Pairwise (· ≤ ·) := hs.up.imp fun {a b} z => Nat.le_of_lt z
    rw [List.Perm.eq_of_pairwise (le := (· ≤ ·)) (fun a b _ _ h1 h2 => Nat.le_antisymm h1 h2) up us (pz.trans pm)]
end K33
set_option Elab.async false
set_option linter.all false
set_option maxRecDepth 100000
set_option maxHeartbeats 1000000
/-! What is a name, a place, signs: of such as are. -/
namespace K23
open PySem PySem.Spec PyProof.Rows L2 Bp
/-- the built-in names that the text asks for -/
structure Blt (mg : Str → Option Value) : Prop where
  isi : mg "isinstance" = none
  int : mg "int" = none
  bool : mg "bool" = none
  str : mg "str" = none
  list : mg "list" = none
  tuple : mg "tuple" = none
  all : mg "all" = none
  len : mg "len" = none
  rng : mg "range" = none
  sum : mg "sum" = none
  set : mg "set" = none
  enu : mg "enumerate" = none
  fastest : ∃ t, mg "_FASTEST" = some (.int (10 ^ 12) t)
  lets : ∃ t, mg "_LETTERS" = some (.str "abcdefghijklmnopqrstuvwxyz" t)
/-- a def of the text, as it is called -/
structure Def (P : Program) (w : World) (K : PySem.W.Frag) (mg : Str → Option Value) (base : Heap) (CX : CXT) (k : Nat) (x : Str) (st : Stmt) (ps : List Str) (sp : Sp) : Prop where
  ex : ∃ (f : Addr) (fd : FuncData), Fun K x x st f fd ∧ Binds K fd ps [] ∧ mg x = some (.ref f) ∧ FnOk P w K mg base CX k f fd ps sp
section
variable {P : Program} {w : World} {K : PySem.W.Frag} {mg : Str → Option Value} {base : Heap}
/-! ### is_whole -/
theorem sc_is_whole : FnScope ["thing"] ["thing"] (defScope s_is_whole) := ⟨rfl, rfl, rfl, by decide +kernel, rfl, by decide +kernel, by decide +kernel⟩
def sp_is_whole : Sp := fun vs H Q _ => ∃ i : Int, vs = [.int i] ∧ Q (.bl true) H
theorem ok_is_whole {f : Addr} {fd : FuncData} {k : Nat} (B : Blt mg) (F : Fun K "is_whole" "is_whole" s_is_whole f fd) : FnOk P w K mg base CX0 (k + 1) f fd ["thing"] sp_is_whole := by
  refine F.ok sc_is_whole (fun vs H Q E h => ?_) (fun cdv A outer s H vs Q E hr h => ?_)
  · obtain ⟨i, rfl, _⟩ := h
    rfl
  · obtain ⟨i, rfl, q⟩ := h
    refine ⟨_, pss_one (ps_ret (pe_and (pe_callB call_isi (by rfl) B.isi (by decide +kernel) (pa_cons (pv 0) (pa_cons (pe_bltn (u := .type "int") (v := .ty "int") (by rfl) B.int (by decide +kernel) (by rfl)) pa_nil)))
      (pe_one (pe_not (pe_callB call_isi (by rfl) B.isi (by decide +kernel) (pa_cons (pv 0) (pa_cons (pe_bltn (u := .type "bool") (v := .ty "bool") (by rfl) B.bool (by decide +kernel) (by rfl)) pa_nil))))))), ?_⟩
    refine ⟨.int i, rfl, .int i, .ty "int", .type "int", .type "int", true, rfl, .ty _, .base (.int i), kit_ty (by decide +kernel), true, rfl, iteT ?_⟩
    exact ⟨.int i, rfl, .int i, .ty "bool", .type "int", .type "bool", false, rfl, .ty _, .base (.int i), kit_ty (by decide +kernel), false, rfl, q⟩
/-! ### is_within -/
theorem sc_is_within : FnScope ["thing", "least", "most"] ["thing", "least", "most"] (defScope s_is_within) := ⟨rfl, rfl, rfl, by decide +kernel, rfl, by decide +kernel, by decide +kernel⟩
def sp_is_within : Sp := fun vs H Q _ => ∃ i a b : Int, vs = [.int i, .int a, .int b] ∧ Q (.bl (decide (a ≤ i ∧ i ≤ b))) H
theorem ok_is_within {f : Addr} {fd : FuncData} {k : Nat} (D : Def P w K mg base CX0 k "is_whole" s_is_whole ["thing"] sp_is_whole) (F : Fun K "is_within" "is_within" s_is_within f fd) : FnOk P w K mg base CX0 (k + 1) f fd ["thing", "least", "most"] sp_is_within := by
  obtain ⟨f1, fd1, F1, b1, g1, G1⟩ := D.ex
  refine F.ok sc_is_within (fun vs H Q E h => ?_) (fun cdv A outer s H vs Q E hr h => ?_)
  · obtain ⟨i, a, b, rfl, _⟩ := h
    rfl
  · obtain ⟨i, a, b, rfl, q⟩ := h
    refine ⟨_, pss_one (ps_ret (pe_and (pe_call G1 hr rfl g1 F1.kp b1 .nil pass0 (pa_cons (pv 0) pa_nil)) (pe_one (pe_chain op_le op_le (pv 1) (pv 0) (pv 2))))), ?_⟩
    refine ⟨.int i, rfl, i, rfl, true, rfl, iteT ?_⟩
    refine ⟨.int a, rfl, .int i, rfl, a, i, rfl, rfl, _, rfl, ?_⟩
    by_cases c : a ≤ i
    · refine yesOf (decide_eq_true c) ?_
      refine ⟨.int b, rfl, i, b, rfl, rfl, ?_⟩
      have e : decide (a ≤ i ∧ i ≤ b) = decide (i ≤ b) := decide_eq_decide.mpr ⟨fun h => h.2, fun h => ⟨c, h⟩⟩
      rw [e] at q
      exact q
    · refine noOf (decide_eq_false c) ?_
      have e : decide (a ≤ i ∧ i ≤ b) = false := decide_eq_false fun h => c h.1
      rw [e] at q
      exact q
/-! ### is_listed -/
theorem sc_is_listed : FnScope ["thing"] ["thing"] (defScope s_is_listed) := ⟨rfl, rfl, rfl, by decide +kernel, rfl, by decide +kernel, by decide +kernel⟩
def sp_is_listed : Sp := fun vs H Q _ => ∃ a : Addr, vs = [.ref a] ∧ ((∃ xs, H a = some (.lst xs)) ∨ ∃ xs, H a = some (.tup xs)) ∧ ∀ H', Same H H' → Q (.bl true) H'
theorem ok_is_listed {f : Addr} {fd : FuncData} {k : Nat} (B : Blt mg) (F : Fun K "is_listed" "is_listed" s_is_listed f fd) : FnOk P w K mg base CX0 (k + 1) f fd ["thing"] sp_is_listed := by
  refine F.ok sc_is_listed (fun vs H Q E h => ?_) (fun cdv A outer s H vs Q E hr h => ?_)
  · obtain ⟨i, rfl, _⟩ := h
    rfl
  · obtain ⟨a, rfl, ha, q⟩ := h
    refine ⟨_, pss_one (ps_ret (pe_callB call_isiT (by rfl) B.isi (by decide +kernel) (pa_cons (pv 0) (pa_cons (pe_tup (pa_cons (pe_bltn (u := .type "list") (v := .ty "list") (by rfl) B.list (by decide +kernel) (by rfl)) (pa_cons (pe_bltn (u := .type "tuple") (v := .ty "tuple") (by rfl) B.tuple (by decide +kernel) (by rfl)) pa_nil))) pa_nil)))), ?_⟩
    refine ⟨.ref a, rfl, (by show 2 ≤ sizeLine; decide), fun t nt => ?_⟩
    have sm : Same H (upd H t (.tup [.ty "list", .ty "tuple"])) := same_new nt
    rcases ha with ⟨xs, e⟩ | ⟨xs, e⟩
    · exact ⟨.ref a, t, _, .type "list", [.type "list", .type "tuple"], true, rfl, upd_same, .cons (.ty _) (.cons (.ty _) .nil), .base (.lst (sm _ _ e)), kitAny_cons (b := true) (kit_ty (by decide +kernel)) (fun z => Bool.noConfusion z) (fun _ => rfl), q _ sm⟩
    · exact ⟨.ref a, t, _, .type "tuple", [.type "list", .type "tuple"], true, rfl, upd_same, .cons (.ty _) (.cons (.ty _) .nil), .base (.tup (sm _ _ e)), kitAny_cons (b := false) (kit_ty (by decide +kernel)) (fun _ => kitAny_cons (b := true) (kit_ty (by decide +kernel)) (fun z => Bool.noConfusion z) (fun _ => rfl)) (fun z => Bool.noConfusion z), q _ sm⟩
/-! ### are_letters -/
theorem sc_are_letters : FnScope ["thing", "letter"] ["thing"] (defScope s_are_letters) := ⟨rfl, rfl, rfl, by decide +kernel, rfl, by decide +kernel, by decide +kernel⟩
theorem in_alphabet {c : Nat} (h : 97 ≤ c ∧ c ≤ 122) : c ∈ ("abcdefghijklmnopqrstuvwxyz" : Str).cps.toList := by
  have e : ("abcdefghijklmnopqrstuvwxyz" : Str) = tx (List.range' 97 26) := by decide +kernel
  rw [e, tx_list]
  exact List.mem_range'_1.mpr ⟨h.1, by omega⟩
def sp_are_letters : Sp := fun vs H Q _ => ∃ m : List Nat, vs = [.str (tx m)] ∧ Low m ∧ m.length ≤ 1000 ∧ ∀ H', Same H H' → Q (.bl true) H'
theorem ok_are_letters {f : Addr} {fd : FuncData} {k : Nat} (B : Blt mg) (F : Fun K "are_letters" "are_letters" s_are_letters f fd) : FnOk P w K mg base CX0 (k + 1) f fd ["thing"] sp_are_letters := by
  refine F.ok sc_are_letters (fun vs H Q E h => ?_) (fun cdv A outer s H vs Q E hr h => ?_)
  · obtain ⟨i, rfl, _⟩ := h
    rfl
  · obtain ⟨m, rfl, low, few, q⟩ := h
    obtain ⟨tk, gl⟩ := B.lets
    refine ⟨_, pss_one (ps_ret (pe_and (pe_callB call_isi (by rfl) B.isi (by decide +kernel) (pa_cons (pv 0) (pa_cons (pe_bltn (u := .type "str") (v := .ty "str") (by rfl) B.str (by decide +kernel) (by rfl)) pa_nil)))
      (pe_one (pe_callB (cr_all rfl) (by rfl) B.all (by decide +kernel) (pa_cons (pe_lc (own := [("letter", 1)]) (g := gName 1) (tt := tYes) rfl sc_are_letters.nd (pi_str (pv 0)) (blkOk_by (own := [("letter", 1)]) (N := ["thing", "letter"]) (sc := defScope s_are_letters) (by decide +kernel))
        (fun _ _ _ _ _ => pg_name (i := 1) sc_are_letters.nd rfl (Or.inl rfl)) (fun _ _ _ _ _ => pts_nil) (fun _ _ _ _ _ => pe_cmpR op_in_sign (pv 1) (pe_glob (v := .str "abcdefghijklmnopqrstuvwxyz") (by rfl) gl ⟨_, rfl⟩) (by rfl))) pa_nil))))), ?_⟩
    refine ⟨.str (tx m), rfl, .str (tx m), .ty "str", .type "str", .type "str", true, rfl, .ty _, .base (.str _), kit_ty (by decide +kernel), true, rfl, iteT ?_⟩
    refine ⟨.str (tx m), rfl, tx m, rfl, fun D nD => ?_⟩
    refine lc_true (H := H) (walk_str (z := tx m)) (fun _ _ => trivial) (by rw [show (tx m).cps.size = m.length from tx_len m]; exact few) nD ?_ ?_ mono_name
    · rintro i x H1 H2 Qy hi sm ⟨rfl, c, hc, rfl⟩ qy
      have hc' : m[i]? = some c := by rw [← tx_list m, Array.getElem?_toList]; exact hc
      refine ⟨rfl, .str (tx [c]), rfl, c, "abcdefghijklmnopqrstuvwxyz", rfl, rfl, ?_⟩
      rw [decide_eq_true (in_alphabet (low c (List.mem_of_getElem? hc')))]
      exact qy _ (Same.refl _)
    · intro H1 sm hD
      refine ⟨D, _, rfl, SqL.of hD, ?_⟩
      rw [all_true]
      exact q H1 sm
theorem qbl {Q : VK} {H : Hp} {b : Bool} (h : b = true) (q : Q (.bl true) H) : Q (.bl b) H := h ▸ q
/-! ### is_name -/
structure Nm (m : List Nat) : Prop where
  low : Low m
  lo : 1 ≤ m.length
  hi : m.length ≤ 8
theorem sc_is_name : FnScope ["thing"] ["thing"] (defScope s_is_name) := ⟨rfl, rfl, rfl, by decide +kernel, rfl, by decide +kernel, by decide +kernel⟩
def sp_is_name : Sp := fun vs H Q _ => ∃ m : List Nat, vs = [.str (tx m)] ∧ Nm m ∧ ∀ H', Same H H' → Q (.bl true) H'
theorem fit_tx {m : List Nat} (h : m.length ≤ 1000) : (tx m).length ≤ sizeLine := by
  rw [tx_len]
  exact Nat.le_of_lt (small1000 h)
theorem ok_is_name {f : Addr} {fd : FuncData} {k : Nat} (B : Blt mg) (D : Def P w K mg base CX0 k "are_letters" s_are_letters ["thing"] sp_are_letters) (F : Fun K "is_name" "is_name" s_is_name f fd) : FnOk P w K mg base CX0 (k + 1) f fd ["thing"] sp_is_name := by
  obtain ⟨f1, fd1, F1, b1, g1, G1⟩ := D.ex
  refine F.ok sc_is_name (fun vs H Q E h => ?_) (fun cdv A outer s H vs Q E hr h => ?_)
  · obtain ⟨i, rfl, _⟩ := h
    rfl
  · obtain ⟨m, rfl, n, q⟩ := h
    refine ⟨_, pss_one (ps_ret (pe_and (pe_call G1 hr rfl g1 F1.kp b1 .nil pass0 (pa_cons (pv 0) pa_nil)) (pe_one (pe_chain op_le op_le pe_int (pe_callB call_len (by rfl) B.len PySem.boot_len (pa_cons (pv 0) pa_nil)) pe_int)))), ?_⟩
    have := n.lo
    have := n.hi
    refine ⟨.str (tx m), rfl, m, rfl, n.low, by omega, fun H1 sm => ⟨true, rfl, iteT ?_⟩⟩
    refine ⟨.str (tx m), rfl, .str (tx m), m.length, rfl, ⟨fit_tx (by omega), (tx_len m).symm⟩, 1, m.length, rfl, rfl, _, rfl, yesOf (decide_eq_true (by omega)) ?_⟩
    refine ⟨_, _, rfl, rfl, ?_⟩
    exact qbl (decide_eq_true (show (m.length : Int) ≤ 8 by omega)) (q H1 sm)
/-! ### are_signs -/
theorem sc_are_signs : FnScope ["thing", "at"] ["thing"] (defScope s_are_signs) := ⟨rfl, rfl, rfl, by decide +kernel, rfl, by decide +kernel, by decide +kernel⟩
def sp_are_signs : Sp := fun vs H Q _ => ∃ m : List Nat, vs = [.str (tx m)] ∧ K33.Signs m ∧ ∀ H', Same H H' → Q (.bl true) H'
theorem ok_are_signs {f : Addr} {fd : FuncData} {k : Nat} (B : Blt mg) (D : Def P w K mg base CX0 k "are_letters" s_are_letters ["thing"] sp_are_letters) (F : Fun K "are_signs" "are_signs" s_are_signs f fd) : FnOk P w K mg base CX0 (k + 1) f fd ["thing"] sp_are_signs := by
  obtain ⟨f1, fd1, F1, b1, g1, G1⟩ := D.ex
  refine F.ok sc_are_signs (fun vs H Q E h => ?_) (fun cdv A outer s H vs Q E hr h => ?_)
  · obtain ⟨i, rfl, _⟩ := h
    rfl
  · obtain ⟨m, rfl, n, q⟩ := h
    refine ⟨_, pss_cons (ps_if (PW.pt (pw_or (pt_not (pt_val (pe_call G1 hr rfl g1 F1.kp b1 .nil pass0 (pa_cons (pv 0) pa_nil)))) (pw_or1 (pt_not (pt_chain op_le op_le pe_int (pe_callB call_len (by rfl) B.len PySem.boot_len (pa_cons (pv 0) pa_nil)) pe_int))))) (pss_one (ps_ret pe_bl)) pss_nil)
      (pss_one (ps_ret (pe_callB (cr_all rfl) (by rfl) B.all (by decide +kernel) (pa_cons (pe_lc (own := [("at", 1)]) (g := gName 1) (tt := tYes) rfl sc_are_signs.nd (pi_range2 (by rfl) B.rng (pa_cons pe_int (pa_cons (pe_callB call_len (by rfl) B.len PySem.boot_len (pa_cons (pv 0) pa_nil)) pa_nil)))
        (blkOk_by (own := [("at", 1)]) (N := ["thing", "at"]) (sc := defScope s_are_signs) (by decide +kernel)) (fun _ _ _ _ _ => pg_name (i := 1) sc_are_signs.nd rfl (Or.inl rfl)) (fun _ _ _ _ _ => pts_nil)
        (fun _ _ _ _ _ => pe_cmpR op_lt_str (pe_ix ix_str (pv 0) (pe_op op_sub (pv 1) pe_int) (fun _ _ => rfl)) (pe_ix ix_str (pv 0) (pv 1) (fun _ _ => rfl)) (nomark _))) pa_nil)))), ?_⟩
    have lo := n.lo
    have hi := n.hi
    have fit : (tx m).length ≤ sizeLine := fit_tx (by omega)
    refine ⟨.str (tx m), rfl, m, rfl, n.small, by omega, fun H1 sm => ⟨true, rfl, noOf rfl ?_⟩⟩
    refine ⟨.str (tx m), rfl, .str (tx m), m.length, rfl, ⟨fit, (tx_len m).symm⟩, 2, m.length, rfl, rfl, _, rfl, yesOf (decide_eq_true (by omega)) ?_⟩
    refine ⟨_, _, rfl, rfl, _, rfl, ?_⟩
    refine noOf (by rw [decide_eq_true (show (m.length : Int) ≤ 4 by omega)]; rfl) ?_
    refine ⟨.str (tx m), rfl, .str (tx m), m.length, rfl, ⟨fit, (tx_len m).symm⟩, 1, m.length, rfl, ⟨by decide, by decide, by omega, by omega⟩, fun D nD => ?_⟩
    have tn : ((m.length : Int) - 1).toNat = m.length - 1 := by omega
    rw [tn]
    refine lc_true (H := H1) (walk_range (lo := 1) (n := m.length - 1)) (fun _ _ => trivial) (by omega) nD ?_ ?_ mono_name
    · rintro i x H2 H3 Qy hi2 sm2 ⟨rfl, rfl⟩ qy
      have l0 : i < m.length := by omega
      have l1 : 1 + i < m.length := by omega
      refine ⟨rfl, .str (tx m), rfl, .int (1 + (i : Int)), rfl, _, 1, rfl, rfl, tx m, _, m[i], rfl, rfl, fit, ?_, .str (tx m), rfl, .int (1 + (i : Int)), rfl, tx m, _, m[1 + i], rfl, rfl, fit, ?_, _, _, rfl, rfl, ?_⟩
      · rw [tx_list, show (1 + (i : Int) - 1) = (i : Int) by omega]
        exact atI_nat (List.getElem?_eq_getElem l0)
      · rw [tx_list, show (1 + (i : Int)) = ((1 + i : Nat) : Int) by omega]
        exact atI_nat (List.getElem?_eq_getElem l1)
      · have lt : m[i] < m[1 + i] := List.pairwise_iff_getElem.mp n.up i (1 + i) l0 l1 (by omega)
        have e : decide ((⟨#[m[i]]⟩ : Str).cps.toList < (⟨#[m[1 + i]]⟩ : Str).cps.toList) = true := decide_eq_true (List.Lex.rel lt)
        exact qbl e (qy _ (Same.refl _))
    · intro H2 sm2 hD
      refine ⟨D, _, rfl, SqL.of hD, ?_⟩
      rw [all_true]
      exact q H2 (sm.trans sm2)
/-! ### is_place -/
theorem sc_is_place : FnScope ["thing"] ["thing"] (defScope s_is_place) := ⟨rfl, rfl, rfl, by decide +kernel, rfl, by decide +kernel, by decide +kernel⟩
def sp_is_place : Sp := fun vs H Q _ => ∃ (t : Addr) (m : List Nat) (n : Nat), vs = [.ref t] ∧ H t = some (.tup [.str (tx m), .int n]) ∧ Nm m ∧ ∀ H', Same H H' → Q (.bl true) H'
theorem ok_is_place {f : Addr} {fd : FuncData} {k : Nat} (B : Blt mg) (D : Def P w K mg base CX0 k "is_name" s_is_name ["thing"] sp_is_name) (D2 : Def P w K mg base CX0 k "is_whole" s_is_whole ["thing"] sp_is_whole)
    (F : Fun K "is_place" "is_place" s_is_place f fd) : FnOk P w K mg base CX0 (k + 1) f fd ["thing"] sp_is_place := by
  obtain ⟨f1, fd1, F1, b1, g1, G1⟩ := D.ex
  obtain ⟨f2, fd2, F2, b2, g2, G2⟩ := D2.ex
  refine F.ok sc_is_place (fun vs H Q E h => ?_) (fun cdv A outer s H vs Q E hr h => ?_)
  · obtain ⟨t, m, n, rfl, _⟩ := h
    rfl
  · obtain ⟨t, m, n, rfl, ht, nm, q⟩ := h
    refine ⟨_, pss_cons (ps_if (PW.pt (pw_or (pt_not (pt_val (pe_callB call_isi (by rfl) B.isi (by decide +kernel) (pa_cons (pv 0) (pa_cons (pe_bltn (u := .type "tuple") (v := .ty "tuple") (by rfl) B.tuple (by decide +kernel) (by rfl)) pa_nil)))))
        (pw_or1 (pt_cmpR op_ne (pe_callB call_len (by rfl) B.len PySem.boot_len (pa_cons (pv 0) pa_nil)) pe_int (nomark _))))) (pss_one (ps_ret pe_bl)) pss_nil)
      (pss_one (ps_ret (pe_and (pe_call G1 hr rfl g1 F1.kp b1 .nil pass0 (pa_cons (pe_ix ix_tup (pv 0) pe_int (fun _ _ => rfl)) pa_nil))
        (pe_and (pe_call G2 hr rfl g2 F2.kp b2 .nil pass0 (pa_cons (pe_ix ix_tup (pv 0) pe_int (fun _ _ => rfl)) pa_nil)) (pe_one (pe_cmpR op_ge (pe_ix ix_tup (pv 0) pe_int (fun _ _ => rfl)) pe_int (nomark _))))))), ?_⟩
    refine ⟨.ref t, rfl, .ref t, .ty "tuple", .type "tuple", .type "tuple", true, rfl, .ty _, .base (.tup ht), kit_ty (by decide +kernel), true, rfl, noOf rfl ?_⟩
    refine ⟨.ref t, rfl, .ref t, 2, rfl, .inr ⟨_, SqT.of ht, rfl⟩, rfl, _, rfl, noOf (by decide) ?_⟩
    refine ⟨.ref t, rfl, t, _, 0, _, rfl, rfl, SqT.of ht, atI_nat (j := 0) rfl, m, rfl, nm, fun H1 sm => ⟨true, rfl, iteT ?_⟩⟩
    have ht1 := sm _ _ ht
    refine ⟨.ref t, rfl, t, _, 1, _, rfl, rfl, SqT.of ht1, atI_nat (j := 1) rfl, n, rfl, true, rfl, iteT ?_⟩
    refine ⟨.ref t, rfl, t, _, 1, _, rfl, rfl, SqT.of ht1, atI_nat (j := 1) rfl, n, 0, rfl, rfl, ?_⟩
    exact qbl (decide_eq_true (show (0 : Int) ≤ (n : Int) by omega)) (q H1 sm)
/-! ### is_pace -/
theorem sc_is_pace : FnScope ["thing"] ["thing"] (defScope s_is_pace) := ⟨rfl, rfl, rfl, by decide +kernel, rfl, by decide +kernel, by decide +kernel⟩
def sp_is_pace : Sp := fun vs H Q _ => ∃ i : Int, vs = [.int i] ∧ -(10 ^ 12) ≤ i ∧ i ≤ 10 ^ 12 ∧ Q (.bl true) H
theorem ok_is_pace {f : Addr} {fd : FuncData} {k : Nat} (B : Blt mg) (D : Def P w K mg base CX0 k "is_within" s_is_within ["thing", "least", "most"] sp_is_within) (F : Fun K "is_pace" "is_pace" s_is_pace f fd) : FnOk P w K mg base CX0 (k + 1) f fd ["thing"] sp_is_pace := by
  obtain ⟨f1, fd1, F1, b1, g1, G1⟩ := D.ex
  obtain ⟨tk, gl⟩ := B.fastest
  refine F.ok sc_is_pace (fun vs H Q E h => ?_) (fun cdv A outer s H vs Q E hr h => ?_)
  · obtain ⟨i, rfl, _⟩ := h
    rfl
  · obtain ⟨i, rfl, h1, h2, q⟩ := h
    refine ⟨_, pss_one (ps_ret (pe_call G1 hr rfl g1 F1.kp b1 .nil pass0 (pa_cons (pv 0) (pa_cons (pe_un un_neg (pe_glob (v := .int (10 ^ 12)) (by rfl) gl ⟨_, rfl⟩)) (pa_cons (pe_glob (v := .int (10 ^ 12)) (by rfl) gl ⟨_, rfl⟩) pa_nil))))), ?_⟩
    exact ⟨.int i, rfl, 10 ^ 12, rfl, i, -(10 ^ 12), 10 ^ 12, rfl, qbl (decide_eq_true ⟨h1, h2⟩) q⟩
/-! ### is_long, is_side_number -/
def sp_is_long : Sp := fun vs H Q _ => ∃ i : Int, vs = [.int i] ∧ 1 ≤ i ∧ i ≤ 12 ∧ Q (.bl true) H
theorem ok_is_long {f : Addr} {fd : FuncData} {k : Nat} (gl : ∃ t, mg "_LONGEST_BAND" = some (.int 12 t)) (D : Def P w K mg base CX0 k "is_within" s_is_within ["thing", "least", "most"] sp_is_within) (F : Fun K "is_long" "is_long" s_is_long f fd) : FnOk P w K mg base CX0 (k + 1) f fd ["thing"] sp_is_long := by
  obtain ⟨f1, fd1, F1, b1, g1, G1⟩ := D.ex
  obtain ⟨tk, gl⟩ := gl
  refine F.ok (N := ["thing"]) ⟨rfl, rfl, rfl, by decide +kernel, rfl, by decide +kernel, by decide +kernel⟩ (fun vs H Q E h => ?_) (fun cdv A outer s H vs Q E hr h => ?_)
  · obtain ⟨i, rfl, _⟩ := h
    rfl
  · obtain ⟨i, rfl, h1, h2, q⟩ := h
    refine ⟨_, pss_one (ps_ret (pe_call G1 hr rfl g1 F1.kp b1 .nil pass0 (pa_cons (pv 0) (pa_cons pe_int (pa_cons (pe_glob (v := .int 12) (by rfl) gl ⟨_, rfl⟩) pa_nil))))), ?_⟩
    exact ⟨.int i, rfl, i, 1, 12, rfl, qbl (decide_eq_true ⟨h1, h2⟩) q⟩
def sp_is_side_number : Sp := fun vs H Q _ => ∃ i : Int, vs = [.int i] ∧ 0 ≤ i ∧ i < 12 ∧ Q (.bl true) H
theorem ok_is_side_number {f : Addr} {fd : FuncData} {k : Nat} (gl : ∃ t, mg "_LONGEST_BAND" = some (.int 12 t)) (D : Def P w K mg base CX0 k "is_within" s_is_within ["thing", "least", "most"] sp_is_within) (F : Fun K "is_side_number" "is_side_number" s_is_side_number f fd) : FnOk P w K mg base CX0 (k + 1) f fd ["thing"] sp_is_side_number := by
  obtain ⟨f1, fd1, F1, b1, g1, G1⟩ := D.ex
  obtain ⟨tk, gl⟩ := gl
  refine F.ok (N := ["thing"]) ⟨rfl, rfl, rfl, by decide +kernel, rfl, by decide +kernel, by decide +kernel⟩ (fun vs H Q E h => ?_) (fun cdv A outer s H vs Q E hr h => ?_)
  · obtain ⟨i, rfl, _⟩ := h
    rfl
  · obtain ⟨i, rfl, h1, h2, q⟩ := h
    refine ⟨_, pss_one (ps_ret (pe_call G1 hr rfl g1 F1.kp b1 .nil pass0 (pa_cons (pv 0) (pa_cons pe_int (pa_cons (pe_op op_sub (pe_glob (v := .int 12) (by rfl) gl ⟨_, rfl⟩) pe_int) pa_nil))))), ?_⟩
    exact ⟨.int i, rfl, 12, 1, rfl, rfl, i, 0, _, rfl, qbl (decide_eq_true ⟨h1, by omega⟩) q⟩
end
end K23
set_option Elab.async false
set_option linter.all false
set_option maxRecDepth 100000
set_option maxHeartbeats 1000000
/-! Bands. -/
namespace K23
open PySem PySem.Spec PyProof.Rows L2 Bp
structure BandL where
  name : List Nat
  long : Nat
  pace : Int
structure BandL.Ok (b : BandL) : Prop where
  nm : Nm b.name
  lo : 1 ≤ b.long
  hi : b.long ≤ 12
  p1 : -(10 ^ 12) ≤ b.pace
  p2 : b.pace ≤ 10 ^ 12
def bandF (b : BandL) : List (Str × V) := [("_name", .str (tx b.name)), ("_long", .int b.long), ("_pace", .int b.pace)]
theorem k_nl : ¬ (("_name" : Str) = "_long") := by decide +kernel
theorem k_np : ¬ (("_name" : Str) = "_pace") := by decide +kernel
theorem k_lp : ¬ (("_long" : Str) = "_pace") := by decide +kernel
theorem bandF_put (b : BandL) : putF "_pace" (.int b.pace) (putF "_long" (.int b.long) (putF "_name" (.str (tx b.name)) [])) = bandF b := by
  show putF "_pace" (V.int b.pace) (if ("_name" : Str) = "_long" then _ else (("_name" : Str), V.str (tx b.name)) :: putF "_long" (.int b.long) []) = _
  rw [if_neg k_nl]
  show (if ("_name" : Str) = "_pace" then _ else (("_name" : Str), V.str (tx b.name)) :: (if ("_long" : Str) = "_pace" then _ else (("_long" : Str), V.int b.long) :: putF "_pace" (.int b.pace) [])) = _
  rw [if_neg k_np, if_neg k_lp]
  rfl
/-- a band stands at p -/
def IsBand (C : Addr) (H : Hp) (p : Addr) (b : BandL) : Prop := ∃ dx, H p = some (.ins C dx (bandF b))
theorem IsBand.kn {C : Addr} {H H' : Hp} {p : Addr} {b : BandL} (h : IsBand C H p b) (k : Kn H H') : IsBand C H' p b := by
  obtain ⟨dx, e⟩ := h
  exact ⟨dx, k _ _ (by intro xs z; cases z) e⟩
theorem lk_cons (g f : Str) (v : V) (fs : List (Str × V)) : ((f, v) :: fs).lookup g = if g = f then some v else fs.lookup g := by
  rw [List.lookup_cons]
  by_cases h : g = f
  · rw [if_pos h, h, beq_self_eq_true]
  · rw [if_neg h, beq_eq_false_iff_ne.mpr h]
theorem bandF_name (b : BandL) : (bandF b).lookup ("_name" : Str) = some (.str (tx b.name)) := by
  unfold bandF
  rw [lk_cons, if_pos rfl]
theorem bandF_long (b : BandL) : (bandF b).lookup ("_long" : Str) = some (.int b.long) := by
  unfold bandF
  rw [lk_cons, if_neg (fun e => k_nl e.symm), lk_cons, if_pos rfl]
theorem bandF_pace (b : BandL) : (bandF b).lookup ("_pace" : Str) = some (.int b.pace) := by
  unfold bandF
  rw [lk_cons, if_neg (fun e => k_np e.symm), lk_cons, if_neg (fun e => k_lp e.symm), lk_cons, if_pos rfl]
theorem bandF_no (b : BandL) {m : Str} (h1 : ¬ m = "_name") (h2 : ¬ m = "_long") (h3 : ¬ m = "_pace") : (bandF b).lookup m = none := by
  unfold bandF
  rw [lk_cons, if_neg h1, lk_cons, if_neg h2, lk_cons, if_neg h3]
  rfl
/-- what the top says of Band -/
structure BandTxt (K : PySem.W.Frag) (mg : Str → Option Value) (C : Addr) : Prop where
  cl : Cls K C
  nN : NoAttr K C "_name"
  nL : NoAttr K C "_long"
  nP : NoAttr K C "_pace"
  gC : mg "Band" = some (.ref C)
  longest : ∃ t, mg "_LONGEST_BAND" = some (.int 12 t)
section
variable {P : Program} {w : World} {K : PySem.W.Frag} {mg : Str → Option Value} {base : Heap} {C : Addr}
theorem sc_Band_init : FnScope ["self", "name", "long", "pace"] ["self", "name", "long", "pace"] (defScope s_Band_init) := ⟨rfl, rfl, rfl, by decide +kernel, rfl, by decide +kernel, by decide +kernel⟩
def sp_Band_init (C : Addr) : Sp := fun vs H Q _ => ∃ (p dx : Addr) (b : BandL), vs = [.ref p, .str (tx b.name), .int b.long, .int b.pace] ∧ b.Ok ∧ H p = some (.ins C dx []) ∧ ∀ H', H' p = some (.ins C dx (bandF b)) → (∀ c o, c ≠ p → H c = some o → H' c = some o) → Q .non H'
abbrev FD (K : PySem.W.Frag) (x qual : Str) (st : Stmt) (dvs : List V) (kws : List (Str × V)) (f : Addr) (fd : FuncData) : Prop := FunD K x qual (defArgs st) (defBody st) (defScope st) dvs kws f fd
theorem ok_Band_init {f : Addr} {fd : FuncData} {k : Nat} (T : BandTxt K mg C) (DN : Def P w K mg base CX0 k "is_name" s_is_name ["thing"] sp_is_name) (DW : Def P w K mg base CX0 k "is_long" s_is_long ["thing"] sp_is_long)
    (DP : Def P w K mg base CX0 k "is_pace" s_is_pace ["thing"] sp_is_pace) (F : FD K "__init__" "Band.__init__" s_Band_init [] [("pace", .int 0)] f fd) : FnOk P w K mg base CX0 (k + 1) f fd ["self", "name", "long", "pace"] (sp_Band_init C) := by
  obtain ⟨f1, fd1, F1, b1, g1, G1⟩ := DN.ex
  obtain ⟨f2, fd2, F2, b2, g2, G2⟩ := DW.ex
  obtain ⟨f3, fd3, F3, b3, g3, G3⟩ := DP.ex
  refine F.ok sc_Band_init (fun vs H Q E h => ?_) (fun cdv A outer s H vs Q E hr h => ?_)
  · obtain ⟨p, dx, b, rfl, _⟩ := h
    rfl
  · obtain ⟨p, dx, b, rfl, ok, hp, q⟩ := h
    refine ⟨_, pss_cons (ps_if (pt_not (pt_val (pe_call G1 hr rfl g1 F1.kp b1 .nil pass0 (pa_cons (pv 1) pa_nil)))) (pss_one ps_never) pss_nil)
      (pss_cons (ps_if (pt_not (pt_val (pe_call G2 hr rfl g2 F2.kp b2 .nil pass0 (pa_cons (pv 2) pa_nil)))) (pss_one ps_never) pss_nil)
      (pss_cons (ps_if (pt_not (pt_val (pe_call G3 hr rfl g3 F3.kp b3 .nil pass0 (pa_cons (pv 3) pa_nil)))) (pss_one ps_never) pss_nil)
      (pss_cons (ps_fld (pv 0) (pv 1) rfl) (pss_cons (ps_fld (pv 0) (pv 2) rfl) (pss_one (ps_fld (pv 0) (pv 3) rfl)))))), ?_⟩
    have lo := ok.lo
    have hi := ok.hi
    refine ⟨.str (tx b.name), rfl, b.name, rfl, ok.nm, fun H1 sm => ⟨true, rfl, noOf rfl ?_⟩⟩
    refine ⟨.int b.long, rfl, b.long, rfl, by omega, by omega, true, rfl, noOf rfl ?_⟩
    refine ⟨.int b.pace, rfl, b.pace, rfl, ok.p1, ok.p2, true, rfl, noOf rfl ?_⟩
    have h1 := sm _ _ hp
    refine ⟨.str (tx b.name), rfl, .ref p, rfl, p, C, dx, _, rfl, h1, T.cl, T.nN, (by show 0 < 1000; decide), ?_⟩
    refine ⟨.int b.long, rfl, .ref p, rfl, p, C, dx, _, rfl, upd_same, T.cl, T.nL, (by show 1 < 1000; decide), ?_⟩
    refine ⟨.int b.pace, rfl, .ref p, rfl, p, C, dx, _, rfl, upd_same, T.cl, T.nP, ?_, ?_⟩
    · show (if ("_name" : Str) = "_long" then _ else (("_name" : Str), V.str (tx b.name)) :: putF "_long" (.int b.long) []).length < 1000
      rw [if_neg k_nl]
      show 2 < 1000
      decide
    · refine q _ (by rw [upd_same]; exact congrArg (fun l => some (HO.ins C dx l)) (bandF_put b)) fun c o ne e => ?_
      rw [upd_ne ne, upd_ne ne, upd_ne ne]
      exact sm _ _ e
/-! ### what it tells -/
theorem sc_Band_called : FnScope ["self"] ["self"] (defScope s_Band_called) := ⟨rfl, rfl, rfl, by decide +kernel, rfl, by decide +kernel, by decide +kernel⟩
def sp_Band_called (C : Addr) : Sp := fun vs H Q _ => ∃ (p : Addr) (b : BandL), vs = [.ref p] ∧ IsBand C H p b ∧ Q (.str (tx b.name)) H
def sp_Band_long (C : Addr) : Sp := fun vs H Q _ => ∃ (p : Addr) (b : BandL), vs = [.ref p] ∧ IsBand C H p b ∧ Q (.int b.long) H
def sp_Band_pace (C : Addr) : Sp := fun vs H Q _ => ∃ (p : Addr) (b : BandL), vs = [.ref p] ∧ IsBand C H p b ∧ Q (.int b.pace) H
theorem ok_Band_called {f : Addr} {fd : FuncData} {k : Nat} (T : BandTxt K mg C) (F : Fun K "called" "Band.called" s_Band_called f fd) : FnOk P w K mg base CX0 (k + 1) f fd ["self"] (sp_Band_called C) := by
  refine F.ok sc_Band_called (fun vs H Q E h => ?_) (fun cdv A outer s H vs Q E hr h => ?_)
  · obtain ⟨p, b, rfl, _⟩ := h
    rfl
  · obtain ⟨p, b, rfl, ⟨dx, e⟩, q⟩ := h
    exact ⟨_, pss_one (ps_ret (pe_fld (pv 0) rfl)), .ref p, rfl, p, C, dx, _, _, rfl, e, T.cl, T.nN, bandF_name b, q⟩
theorem ok_Band_long {f : Addr} {fd : FuncData} {k : Nat} (T : BandTxt K mg C) (F : Fun K "long" "Band.long" s_Band_long f fd) : FnOk P w K mg base CX0 (k + 1) f fd ["self"] (sp_Band_long C) := by
  refine F.ok (N := ["self"]) ⟨rfl, rfl, rfl, by decide +kernel, rfl, by decide +kernel, by decide +kernel⟩ (fun vs H Q E h => ?_) (fun cdv A outer s H vs Q E hr h => ?_)
  · obtain ⟨p, b, rfl, _⟩ := h
    rfl
  · obtain ⟨p, b, rfl, ⟨dx, e⟩, q⟩ := h
    exact ⟨_, pss_one (ps_ret (pe_fld (pv 0) rfl)), .ref p, rfl, p, C, dx, _, _, rfl, e, T.cl, T.nL, bandF_long b, q⟩
theorem ok_Band_pace {f : Addr} {fd : FuncData} {k : Nat} (T : BandTxt K mg C) (F : Fun K "pace" "Band.pace" s_Band_pace f fd) : FnOk P w K mg base CX0 (k + 1) f fd ["self"] (sp_Band_pace C) := by
  refine F.ok (N := ["self"]) ⟨rfl, rfl, rfl, by decide +kernel, rfl, by decide +kernel, by decide +kernel⟩ (fun vs H Q E h => ?_) (fun cdv A outer s H vs Q E hr h => ?_)
  · obtain ⟨p, b, rfl, _⟩ := h
    rfl
  · obtain ⟨p, b, rfl, ⟨dx, e⟩, q⟩ := h
    exact ⟨_, pss_one (ps_ret (pe_fld (pv 0) rfl)), .ref p, rfl, p, C, dx, _, _, rfl, e, T.cl, T.nP, bandF_pace b, q⟩
end
end K23
set_option Elab.async false
set_option linter.all false
set_option maxRecDepth 100000
set_option maxHeartbeats 1000000
/-! Presses. -/
namespace K23
open PySem PySem.Spec PyProof.Rows L2 Bp
structure PlaceL where
  name : List Nat
  at_ : Nat
def IsPlace (H : Hp) (t : Addr) (s : PlaceL) : Prop := H t = some (.tup [.str (tx s.name), .int s.at_])
theorem IsPlace.kn {H H' : Hp} {t : Addr} {s : PlaceL} (h : IsPlace H t s) (k : Kn H H') : IsPlace H' t s := k _ _ (by intro xs z; cases z) h
/-- len in a comprehension -/
def rLen (K : PySem.W.Frag) : List V → Hp → VK → Prop := fun xs H Q => ∃ x n, xs = [x] ∧ LenV K x H n ∧ Q (.int n) H
/-- a table for n signs: n texts, n signs each -/
structure TableOk (n : Nat) (l : List (List Nat)) : Prop where
  lo : 2 ≤ n
  hi : n ≤ 4
  len : l.length = n
  each : ∀ m ∈ l, m.length = n ∧ Low m
structure RhythmOk (m : List Nat) : Prop where
  lo : 1 ≤ m.length
  hi : m.length ≤ 6
  each : ∀ c ∈ m, c = 120 ∨ c = 45
section
variable {P : Program} {w : World} {K : PySem.W.Frag} {mg : Str → Option Value} {base : Heap} {C : Addr}
/-! ### is_side -/
def sp_is_side : Sp := fun vs H Q _ => ∃ (t : Addr) (s : PlaceL), vs = [.ref t] ∧ IsPlace H t s ∧ Nm s.name ∧ s.at_ < 12 ∧ ∀ H', Same H H' → Q (.bl true) H'
theorem ok_is_side {f : Addr} {fd : FuncData} {k : Nat} (DN : Def P w K mg base CX0 k "is_side_number" s_is_side_number ["thing"] sp_is_side_number) (D : Def P w K mg base CX0 k "is_place" s_is_place ["thing"] sp_is_place) (F : Fun K "is_side" "is_side" s_is_side f fd) : FnOk P w K mg base CX0 (k + 1) f fd ["thing"] sp_is_side := by
  obtain ⟨f1, fd1, F1, b1, g1, G1⟩ := D.ex
  obtain ⟨f2, fd2, F2, b2, g2, G2⟩ := DN.ex
  refine F.ok (N := ["thing"]) ⟨rfl, rfl, rfl, by decide +kernel, rfl, by decide +kernel, by decide +kernel⟩ (fun vs H Q E h => ?_) (fun cdv A outer s H vs Q E hr h => ?_)
  · obtain ⟨i, s, rfl, _⟩ := h
    rfl
  · obtain ⟨t, s, rfl, ht, nm, lt, q⟩ := h
    refine ⟨_, pss_one (ps_ret (pe_and (pe_call G1 hr rfl g1 F1.kp b1 .nil pass0 (pa_cons (pv 0) pa_nil)) (pe_one (pe_call G2 hr rfl g2 F2.kp b2 .nil pass0 (pa_cons (pe_ix ix_tup (pv 0) pe_int (fun _ _ => rfl)) pa_nil))))), ?_⟩
    refine ⟨.ref t, rfl, t, s.name, s.at_, rfl, ht, nm, fun H1 sm => ⟨true, rfl, iteT ?_⟩⟩
    refine ⟨.ref t, rfl, t, _, 1, _, rfl, rfl, SqT.of (sm _ _ ht), atI_nat (j := 1) rfl, s.at_, rfl, by omega, by omega, ?_⟩
    exact q H1 sm
/-! ### is_table -/
theorem sc_is_table : FnScope ["thing", "text"] ["thing"] (defScope s_is_table) := ⟨rfl, rfl, rfl, by decide +kernel, rfl, by decide +kernel, by decide +kernel⟩
def sp_is_table : Sp := fun vs H Q _ => ∃ (t : Addr) (n : Nat) (l : List (List Nat)), vs = [.ref t] ∧ H t = some (.tup (txs l)) ∧ TableOk n l ∧ ∀ H', Same H H' → Q (.bl true) H'
theorem ok_is_table {f : Addr} {fd : FuncData} {k : Nat} (B : Blt mg) (D : Def P w K mg base CX0 k "are_letters" s_are_letters ["thing"] sp_are_letters) (F : Fun K "is_table" "is_table" s_is_table f fd) : FnOk P w K mg base CX0 (k + 1) f fd ["thing"] sp_is_table := by
  obtain ⟨f1, fd1, F1, b1, g1, G1⟩ := D.ex
  refine F.ok sc_is_table (fun vs H Q E h => ?_) (fun cdv A outer s H vs Q E hr h => ?_)
  · obtain ⟨t, n, l, rfl, _⟩ := h
    rfl
  · obtain ⟨t, n, l, rfl, ht, ok, q⟩ := h
    refine ⟨_, pss_cons (ps_if (PW.pt (pw_or (pt_not (pt_val (pe_callB call_isi (by rfl) B.isi (by decide +kernel) (pa_cons (pv 0) (pa_cons (pe_bltn (u := .type "tuple") (v := .ty "tuple") (by rfl) B.tuple (by decide +kernel) (by rfl)) pa_nil)))))
        (pw_or1 (pt_not (pt_chain op_le op_le pe_int (pe_callB call_len (by rfl) B.len PySem.boot_len (pa_cons (pv 0) pa_nil)) pe_int))))) (pss_one (ps_ret pe_bl)) pss_nil)
      (pss_one (ps_ret (pe_callB (cr_all rfl) (by rfl) B.all (by decide +kernel) (pa_cons (pe_lc (own := [("text", 1)]) (g := gName 1) (tt := tYes) rfl sc_is_table.nd (pi_tup (pv 0)) (blkOk_by (own := [("text", 1)]) (N := ["thing", "text"]) (sc := defScope s_is_table) (by decide +kernel))
        (fun _ _ _ _ _ => pg_name (i := 1) sc_is_table.nd rfl (Or.inl rfl)) (fun _ _ _ _ _ => pts_nil) (fun _ _ _ _ _ => pe_and (pe_call G1 hr rfl g1 F1.kp b1 .nil pass0 (pa_cons (pv 1) pa_nil))
          (pe_one (pe_cmpR op_eq (pe_callB call_len_str (by rfl) B.len PySem.boot_len (pa_cons (pv 1) pa_nil)) (pe_callB (show CallR _ (.builtin "len") (rLen K) from call_len) (by rfl) B.len PySem.boot_len (pa_cons (pv 0) pa_nil)) (nomark _))))) pa_nil)))), ?_⟩
    have lo := ok.lo
    have hi := ok.hi
    have len := ok.len
    refine ⟨.ref t, rfl, .ref t, .ty "tuple", .type "tuple", .type "tuple", true, rfl, .ty _, .base (.tup ht), kit_ty (by decide +kernel), true, rfl, noOf rfl ?_⟩
    refine ⟨.ref t, rfl, .ref t, n, rfl, .inr ⟨_, SqT.of ht, by rw [txs_len, len]⟩, 2, n, rfl, rfl, _, rfl, yesOf (decide_eq_true (by omega)) ?_⟩
    refine ⟨_, _, rfl, rfl, _, rfl, ?_⟩
    refine noOf (by rw [decide_eq_true (show (n : Int) ≤ 4 by omega)]; rfl) ?_
    refine ⟨.ref t, rfl, t, rfl, ⟨_, SqT.of ht⟩, fun D nD => ?_⟩
    refine lc_true (H := H) (walk_tup (K := K) (a := t) (xs := txs l)) (fun H1 sm => SqT.of (sm _ _ ht)) (by rw [txs_len]; omega) nD ?_ ?_ mono_name
    · rintro i x H1 H2 Qy hi2 sm ⟨rfl, hx⟩ qy
      obtain ⟨m, hm, rfl⟩ : ∃ m, m ∈ l ∧ x = .str (tx m) := by
        obtain ⟨m, hm, e⟩ := List.mem_map.mp (List.mem_of_getElem? hx)
        exact ⟨m, hm, e.symm⟩
      obtain ⟨ml, mlow⟩ := ok.each m hm
      refine ⟨rfl, .str (tx m), rfl, m, rfl, mlow, by omega, fun H3 s3 => ⟨true, rfl, iteT ?_⟩⟩
      refine ⟨.str (tx m), rfl, tx m, rfl, fit_tx (by omega), .ref t, rfl, .ref t, n, rfl, .inr ⟨_, SqT.of (s3 _ _ (sm _ _ ht)), by rw [txs_len, len]⟩, rfl, ?_⟩
      exact qbl (decide_eq_true (by show V.int ((tx m).length : Nat) = V.int (n : Nat); rw [tx_len, ml])) (qy H3 s3)
    · intro H1 sm hD
      refine ⟨D, _, rfl, SqL.of hD, ?_⟩
      rw [all_true]
      exact q H1 sm
/-! ### is_rhythm -/
theorem sc_is_rhythm : FnScope ["thing", "mark"] ["thing"] (defScope s_is_rhythm) := ⟨rfl, rfl, rfl, by decide +kernel, rfl, by decide +kernel, by decide +kernel⟩
def sp_is_rhythm : Sp := fun vs H Q _ => ∃ m : List Nat, vs = [.str (tx m)] ∧ RhythmOk m ∧ ∀ H', Same H H' → Q (.bl true) H'
theorem in_marks {c : Nat} (h : c = 120 ∨ c = 45) : c ∈ ("x-" : Str).cps.toList := by
  rcases h with rfl | rfl <;> decide +kernel
theorem ok_is_rhythm {f : Addr} {fd : FuncData} {k : Nat} (B : Blt mg) (gl : ∃ t, mg "_MOST_BEATS_OF_RHYTHM" = some (.int 6 t)) (F : Fun K "is_rhythm" "is_rhythm" s_is_rhythm f fd) : FnOk P w K mg base CX0 (k + 1) f fd ["thing"] sp_is_rhythm := by
  obtain ⟨tk, gl⟩ := gl
  refine F.ok sc_is_rhythm (fun vs H Q E h => ?_) (fun cdv A outer s H vs Q E hr h => ?_)
  · obtain ⟨m, rfl, _⟩ := h
    rfl
  · obtain ⟨m, rfl, ok, q⟩ := h
    refine ⟨_, pss_cons (ps_if (PW.pt (pw_or (pt_not (pt_val (pe_callB call_isi (by rfl) B.isi (by decide +kernel) (pa_cons (pv 0) (pa_cons (pe_bltn (u := .type "str") (v := .ty "str") (by rfl) B.str (by decide +kernel) (by rfl)) pa_nil)))))
        (pw_or1 (pt_not (pt_chain op_le op_le pe_int (pe_callB call_len (by rfl) B.len PySem.boot_len (pa_cons (pv 0) pa_nil)) (pe_glob (v := .int 6) (by rfl) gl ⟨_, rfl⟩)))))) (pss_one (ps_ret pe_bl)) pss_nil)
      (pss_one (ps_ret (pe_callB (cr_all rfl) (by rfl) B.all (by decide +kernel) (pa_cons (pe_lc (own := [("mark", 1)]) (g := gName 1) (tt := tYes) rfl sc_is_rhythm.nd (pi_str (pv 0)) (blkOk_by (own := [("mark", 1)]) (N := ["thing", "mark"]) (sc := defScope s_is_rhythm) (by decide +kernel))
        (fun _ _ _ _ _ => pg_name (i := 1) sc_is_rhythm.nd rfl (Or.inl rfl)) (fun _ _ _ _ _ => pts_nil) (fun _ _ _ _ _ => pe_cmpR op_in_sign (pv 1) pe_str (by rfl))) pa_nil)))), ?_⟩
    have lo := ok.lo
    have hi := ok.hi
    refine ⟨.str (tx m), rfl, .str (tx m), .ty "str", .type "str", .type "str", true, rfl, .ty _, .base (.str _), kit_ty (by decide +kernel), true, rfl, noOf rfl ?_⟩
    refine ⟨.str (tx m), rfl, .str (tx m), m.length, rfl, ⟨fit_tx (by omega), (tx_len m).symm⟩, 1, m.length, rfl, rfl, _, rfl, yesOf (decide_eq_true (by omega)) ?_⟩
    refine ⟨_, _, rfl, rfl, _, rfl, ?_⟩
    refine noOf (by rw [decide_eq_true (show (m.length : Int) ≤ 6 by omega)]; rfl) ?_
    refine ⟨.str (tx m), rfl, tx m, rfl, fun D nD => ?_⟩
    refine lc_true (H := H) (walk_str (z := tx m)) (fun _ _ => trivial) (by rw [show (tx m).cps.size = m.length from tx_len m]; omega) nD ?_ ?_ mono_name
    · rintro i x H1 H2 Qy hi sm ⟨rfl, c, hc, rfl⟩ qy
      have hc' : m[i]? = some c := by rw [← tx_list m, Array.getElem?_toList]; exact hc
      refine ⟨rfl, .str (tx [c]), rfl, c, "x-", rfl, rfl, ?_⟩
      exact qbl (decide_eq_true (in_marks (ok.each c (List.mem_of_getElem? hc')))) (qy _ (Same.refl _))
    · intro H1 sm hD
      refine ⟨D, _, rfl, SqL.of hD, ?_⟩
      rw [all_true]
      exact q H1 sm
end
end K23
set_option Elab.async false
set_option linter.all false
set_option maxRecDepth 100000
set_option maxHeartbeats 1000000
/-! Presses, the class. -/
namespace K23
open PySem PySem.Spec PyProof.Rows L2 Bp
structure PressL where
  above : PlaceL
  below : PlaceL
  table : List (List Nat)
  rhythm : List Nat
structure PressL.Ok (n : Nat) (r : PressL) : Prop where
  a1 : Nm r.above.name
  a2 : r.above.at_ < 12
  b1 : Nm r.below.name
  b2 : r.below.at_ < 12
  tb : TableOk n r.table
  rh : RhythmOk r.rhythm
def pressF (a b t : Addr) (m : List Nat) : List (Str × V) := [("_above", .ref a), ("_below", .ref b), ("_table", .ref t), ("_rhythm", .str (tx m))]
theorem k_ab : ¬ (("_above" : Str) = "_below") := by decide +kernel
theorem k_at : ¬ (("_above" : Str) = "_table") := by decide +kernel
theorem k_ar : ¬ (("_above" : Str) = "_rhythm") := by decide +kernel
theorem k_bt : ¬ (("_below" : Str) = "_table") := by decide +kernel
theorem k_br : ¬ (("_below" : Str) = "_rhythm") := by decide +kernel
theorem k_tr : ¬ (("_table" : Str) = "_rhythm") := by decide +kernel
theorem putF_cons (f g : Str) (v u : V) (fs : List (Str × V)) : putF f v ((g, u) :: fs) = if g = f then (g, v) :: fs else (g, u) :: putF f v fs := rfl
theorem putF_nil (f : Str) (v : V) : putF f v [] = [(f, v)] := rfl
theorem pressF_put (a b t : Addr) (m : List Nat) : putF "_rhythm" (.str (tx m)) (putF "_table" (.ref t) (putF "_below" (.ref b) (putF "_above" (.ref a) []))) = pressF a b t m := by
  have e1 : putF "_below" (.ref b) (putF "_above" (.ref a) []) = ([("_above", .ref a), ("_below", .ref b)] : List (Str × V)) := by
    show putF "_below" (V.ref b) [(("_above" : Str), V.ref a)] = _
    rw [putF_cons, if_neg k_ab]
    rfl
  have e2 : putF "_table" (.ref t) ([("_above", .ref a), ("_below", .ref b)] : List (Str × V)) = ([("_above", .ref a), ("_below", .ref b), ("_table", .ref t)] : List (Str × V)) := by
    rw [putF_cons, if_neg k_at, putF_cons, if_neg k_bt]
    rfl
  rw [e1, e2, putF_cons, if_neg k_ar, putF_cons, if_neg k_br, putF_cons, if_neg k_tr]
  rfl
theorem putF_few (f : Str) (v : V) : ∀ fs : List (Str × V), (putF f v fs).length ≤ fs.length + 1
  | [] => Nat.le_refl _
  | (g, u) :: fs => by
    rw [putF_cons]
    split
    · rw [List.length_cons, List.length_cons]
      omega
    · rw [List.length_cons, List.length_cons]
      have := putF_few f v fs
      omega
theorem pressF_above (a b t : Addr) (m : List Nat) : (pressF a b t m).lookup ("_above" : Str) = some (.ref a) := by
  unfold pressF
  rw [lk_cons, if_pos rfl]
theorem pressF_below (a b t : Addr) (m : List Nat) : (pressF a b t m).lookup ("_below" : Str) = some (.ref b) := by
  unfold pressF
  rw [lk_cons, if_neg (fun e => k_ab e.symm), lk_cons, if_pos rfl]
theorem pressF_table (a b t : Addr) (m : List Nat) : (pressF a b t m).lookup ("_table" : Str) = some (.ref t) := by
  unfold pressF
  rw [lk_cons, if_neg (fun e => k_at e.symm), lk_cons, if_neg (fun e => k_bt e.symm), lk_cons, if_pos rfl]
theorem pressF_rhythm (a b t : Addr) (m : List Nat) : (pressF a b t m).lookup ("_rhythm" : Str) = some (.str (tx m)) := by
  unfold pressF
  rw [lk_cons, if_neg (fun e => k_ar e.symm), lk_cons, if_neg (fun e => k_br e.symm), lk_cons, if_neg (fun e => k_tr e.symm), lk_cons, if_pos rfl]
theorem pressF_no (a b t : Addr) (n : List Nat) {m : Str} (h1 : ¬ m = "_above") (h2 : ¬ m = "_below") (h3 : ¬ m = "_table") (h4 : ¬ m = "_rhythm") : (pressF a b t n).lookup m = none := by
  unfold pressF
  rw [lk_cons, if_neg h1, lk_cons, if_neg h2, lk_cons, if_neg h3, lk_cons, if_neg h4]
  rfl
/-- what a press's fields hold -/
structure PressAt (H : Hp) (a b t : Addr) (r : PressL) : Prop where
  ab : IsPlace H a r.above
  be : IsPlace H b r.below
  tb : H t = some (.tup (txs r.table))
theorem PressAt.kn {H H' : Hp} {a b t : Addr} {r : PressL} (h : PressAt H a b t r) (k : Kn H H') : PressAt H' a b t r := ⟨h.ab.kn k, h.be.kn k, k _ _ (by intro xs z; cases z) h.tb⟩
/-- a press stands at p -/
def IsPress (C : Addr) (H : Hp) (p : Addr) (r : PressL) : Prop := ∃ dx a b t, H p = some (.ins C dx (pressF a b t r.rhythm)) ∧ PressAt H a b t r
theorem IsPress.kn {C : Addr} {H H' : Hp} {p : Addr} {r : PressL} (h : IsPress C H p r) (k : Kn H H') : IsPress C H' p r := by
  obtain ⟨dx, a, b, t, e, z⟩ := h
  exact ⟨dx, a, b, t, k _ _ (by intro xs z; cases z) e, z.kn k⟩
/-- what the top says of Press -/
structure PressTxt (K : PySem.W.Frag) (mg : Str → Option Value) (C : Addr) : Prop where
  cl : Cls K C
  nA : NoAttr K C "_above"
  nB : NoAttr K C "_below"
  nT : NoAttr K C "_table"
  nR : NoAttr K C "_rhythm"
  gC : mg "Press" = some (.ref C)
section
variable {P : Program} {w : World} {K : PySem.W.Frag} {mg : Str → Option Value} {base : Heap} {C : Addr}
theorem sc_Press_init : FnScope ["self", "above", "below", "table", "rhythm"] ["self", "above", "below", "table", "rhythm"] (defScope s_Press_init) := ⟨rfl, rfl, rfl, by decide +kernel, rfl, by decide +kernel, by decide +kernel⟩
def sp_Press_init (C : Addr) : Sp := fun vs H Q _ => ∃ (p dx a b t : Addr) (n : Nat) (r : PressL), vs = [.ref p, .ref a, .ref b, .ref t, .str (tx r.rhythm)] ∧ r.Ok n ∧ PressAt H a b t r ∧ H p = some (.ins C dx []) ∧
  ∀ H', H' p = some (.ins C dx (pressF a b t r.rhythm)) → (∀ c o, c ≠ p → H c = some o → H' c = some o) → Q .non H'
theorem ok_Press_init {f : Addr} {fd : FuncData} {k : Nat} (T : PressTxt K mg C) (DS : Def P w K mg base CX0 k "is_side" s_is_side ["thing"] sp_is_side) (DT : Def P w K mg base CX0 k "is_table" s_is_table ["thing"] sp_is_table)
    (DR : Def P w K mg base CX0 k "is_rhythm" s_is_rhythm ["thing"] sp_is_rhythm) (F : FD K "__init__" "Press.__init__" s_Press_init [] [("rhythm", .str "x")] f fd) : FnOk P w K mg base CX0 (k + 1) f fd ["self", "above", "below", "table", "rhythm"] (sp_Press_init C) := by
  obtain ⟨f1, fd1, F1, b1, g1, G1⟩ := DS.ex
  obtain ⟨f2, fd2, F2, b2, g2, G2⟩ := DT.ex
  obtain ⟨f3, fd3, F3, b3, g3, G3⟩ := DR.ex
  refine F.ok sc_Press_init (fun vs H Q E h => ?_) (fun cdv A outer s H vs Q E hr h => ?_)
  · obtain ⟨p, dx, a, b, t, n, r, rfl, _⟩ := h
    rfl
  · obtain ⟨p, dx, a, b, t, n, r, rfl, ok, pa, hp, q⟩ := h
    refine ⟨_, pss_cons (ps_if (pt_not (pt_val (pe_call G1 hr rfl g1 F1.kp b1 .nil pass0 (pa_cons (pv 1) pa_nil)))) (pss_one ps_never) pss_nil)
      (pss_cons (ps_if (pt_not (pt_val (pe_call G1 hr rfl g1 F1.kp b1 .nil pass0 (pa_cons (pv 2) pa_nil)))) (pss_one ps_never) pss_nil)
      (pss_cons (ps_if (pt_not (pt_val (pe_call G2 hr rfl g2 F2.kp b2 .nil pass0 (pa_cons (pv 3) pa_nil)))) (pss_one ps_never) pss_nil)
      (pss_cons (ps_if (pt_not (pt_val (pe_call G3 hr rfl g3 F3.kp b3 .nil pass0 (pa_cons (pv 4) pa_nil)))) (pss_one ps_never) pss_nil)
      (pss_cons (ps_fld (pv 0) (pv 1) rfl) (pss_cons (ps_fld (pv 0) (pv 2) rfl) (pss_cons (ps_fld (pv 0) (pv 3) rfl) (pss_one (ps_fld (pv 0) (pv 4) rfl)))))))), ?_⟩
    refine ⟨.ref a, rfl, a, r.above, rfl, pa.ab, ok.a1, ok.a2, fun H1 s1 => ⟨true, rfl, noOf rfl ?_⟩⟩
    have pa1 := pa.kn (Kn.of s1)
    refine ⟨.ref b, rfl, b, r.below, rfl, pa1.be, ok.b1, ok.b2, fun H2 s2 => ⟨true, rfl, noOf rfl ?_⟩⟩
    have pa2 := pa1.kn (Kn.of s2)
    refine ⟨.ref t, rfl, t, n, r.table, rfl, pa2.tb, ok.tb, fun H3 s3 => ⟨true, rfl, noOf rfl ?_⟩⟩
    refine ⟨.str (tx r.rhythm), rfl, r.rhythm, rfl, ok.rh, fun H4 s4 => ⟨true, rfl, noOf rfl ?_⟩⟩
    have sm := ((s1.trans s2).trans s3).trans s4
    have h1 := sm _ _ hp
    refine ⟨.ref a, rfl, .ref p, rfl, p, C, dx, _, rfl, h1, T.cl, T.nA, (by show 0 < 1000; decide), ?_⟩
    refine ⟨.ref b, rfl, .ref p, rfl, p, C, dx, _, rfl, upd_same, T.cl, T.nB, (by show 1 < 1000; decide), ?_⟩
    refine ⟨.ref t, rfl, .ref p, rfl, p, C, dx, _, rfl, upd_same, T.cl, T.nT, ?_, ?_⟩
    · have e1 := putF_few "_below" (.ref b) (putF "_above" (.ref a) [])
      have e2 : (putF "_above" (.ref a) []).length = 1 := rfl
      omega
    · refine ⟨.str (tx r.rhythm), rfl, .ref p, rfl, p, C, dx, _, rfl, upd_same, T.cl, T.nR, ?_, ?_⟩
      · have e0 := putF_few "_table" (.ref t) (putF "_below" (.ref b) (putF "_above" (.ref a) []))
        have e1 := putF_few "_below" (.ref b) (putF "_above" (.ref a) [])
        have e2 : (putF "_above" (.ref a) []).length = 1 := rfl
        omega
      · refine q _ (by rw [upd_same]; exact congrArg (fun l => some (HO.ins C dx l)) (pressF_put a b t r.rhythm)) fun c o ne e => ?_
        rw [upd_ne ne, upd_ne ne, upd_ne ne, upd_ne ne]
        exact sm _ _ e
/-! ### what it tells -/
def sp_Press_above (C : Addr) : Sp := fun vs H Q _ => ∃ (p : Addr) (r : PressL), vs = [.ref p] ∧ IsPress C H p r ∧ ∀ a, IsPlace H a r.above → Q (.ref a) H
def sp_Press_below (C : Addr) : Sp := fun vs H Q _ => ∃ (p : Addr) (r : PressL), vs = [.ref p] ∧ IsPress C H p r ∧ ∀ a, IsPlace H a r.below → Q (.ref a) H
def sp_Press_table (C : Addr) : Sp := fun vs H Q _ => ∃ (p : Addr) (r : PressL), vs = [.ref p] ∧ IsPress C H p r ∧ ∀ a, H a = some (.tup (txs r.table)) → Q (.ref a) H
def sp_Press_rhythm (C : Addr) : Sp := fun vs H Q _ => ∃ (p : Addr) (r : PressL), vs = [.ref p] ∧ IsPress C H p r ∧ Q (.str (tx r.rhythm)) H
theorem ok_Press_above {f : Addr} {fd : FuncData} {k : Nat} (T : PressTxt K mg C) (F : Fun K "above" "Press.above" s_Press_above f fd) : FnOk P w K mg base CX0 (k + 1) f fd ["self"] (sp_Press_above C) := by
  refine F.ok (N := ["self"]) ⟨rfl, rfl, rfl, by decide +kernel, rfl, by decide +kernel, by decide +kernel⟩ (fun vs H Q E h => ?_) (fun cdv A outer s H vs Q E hr h => ?_)
  · obtain ⟨p, r, rfl, _⟩ := h
    rfl
  · obtain ⟨p, r, rfl, ⟨dx, a, b, t, e, z⟩, q⟩ := h
    exact ⟨_, pss_one (ps_ret (pe_fld (pv 0) rfl)), .ref p, rfl, p, C, dx, _, _, rfl, e, T.cl, T.nA, pressF_above a b t r.rhythm, q a z.ab⟩
theorem ok_Press_below {f : Addr} {fd : FuncData} {k : Nat} (T : PressTxt K mg C) (F : Fun K "below" "Press.below" s_Press_below f fd) : FnOk P w K mg base CX0 (k + 1) f fd ["self"] (sp_Press_below C) := by
  refine F.ok (N := ["self"]) ⟨rfl, rfl, rfl, by decide +kernel, rfl, by decide +kernel, by decide +kernel⟩ (fun vs H Q E h => ?_) (fun cdv A outer s H vs Q E hr h => ?_)
  · obtain ⟨p, r, rfl, _⟩ := h
    rfl
  · obtain ⟨p, r, rfl, ⟨dx, a, b, t, e, z⟩, q⟩ := h
    exact ⟨_, pss_one (ps_ret (pe_fld (pv 0) rfl)), .ref p, rfl, p, C, dx, _, _, rfl, e, T.cl, T.nB, pressF_below a b t r.rhythm, q b z.be⟩
theorem ok_Press_table {f : Addr} {fd : FuncData} {k : Nat} (T : PressTxt K mg C) (F : Fun K "table" "Press.table" s_Press_table f fd) : FnOk P w K mg base CX0 (k + 1) f fd ["self"] (sp_Press_table C) := by
  refine F.ok (N := ["self"]) ⟨rfl, rfl, rfl, by decide +kernel, rfl, by decide +kernel, by decide +kernel⟩ (fun vs H Q E h => ?_) (fun cdv A outer s H vs Q E hr h => ?_)
  · obtain ⟨p, r, rfl, _⟩ := h
    rfl
  · obtain ⟨p, r, rfl, ⟨dx, a, b, t, e, z⟩, q⟩ := h
    exact ⟨_, pss_one (ps_ret (pe_fld (pv 0) rfl)), .ref p, rfl, p, C, dx, _, _, rfl, e, T.cl, T.nT, pressF_table a b t r.rhythm, q t z.tb⟩
theorem ok_Press_rhythm {f : Addr} {fd : FuncData} {k : Nat} (T : PressTxt K mg C) (F : Fun K "rhythm" "Press.rhythm" s_Press_rhythm f fd) : FnOk P w K mg base CX0 (k + 1) f fd ["self"] (sp_Press_rhythm C) := by
  refine F.ok (N := ["self"]) ⟨rfl, rfl, rfl, by decide +kernel, rfl, by decide +kernel, by decide +kernel⟩ (fun vs H Q E h => ?_) (fun cdv A outer s H vs Q E hr h => ?_)
  · obtain ⟨p, r, rfl, _⟩ := h
    rfl
  · obtain ⟨p, r, rfl, ⟨dx, a, b, t, e, z⟩, q⟩ := h
    exact ⟨_, pss_one (ps_ret (pe_fld (pv 0) rfl)), .ref p, rfl, p, C, dx, _, _, rfl, e, T.cl, T.nR, pressF_rhythm a b t r.rhythm, q⟩
end
end K23
set_option Elab.async false
set_option linter.all false
set_option maxRecDepth 100000
/-! len(set(xs)) of a list of unlike texts. -/
namespace Bp
open PySem PySem.Spec PyProof.Rows L2
section
variable {prog : Program} {w : World} {A : Around} {R : Result → Shared → Prop} {it D : Addr} {fp wr : List Addr} {G : Array GenState → Array GenState → Prop} {n : Nat} {P : Nat → Value → Prop} {St : Nat → Shared → Prop}
/-- the set D holds just the first i of ys, all unlike -/
abbrev Holds (prog : Program) (w : World) (D : Addr) (ys : List Str) (i : Nat) (z : Shared) : Prop := z.heap.SetOf (strKind prog w) D (fun y => (ys.take i).any fun x => x == y) i
theorem Holds.moved {ys : List Str} {i : Nat} {z z' : Shared} (h : Holds prog w D ys i z) (k : ∀ o, z.heap.get? D = some o → z'.heap.get? D = some o) : Holds prog w D ys i z' := by
  obtain ⟨o, a, b, c, there, r⟩ := h
  exact ⟨o, a, b, c, k o there, r⟩
theorem fresh_text {ys : List Str} {i : Nat} {y : Str} (nd : ys.Nodup) (e : ys[i]? = some y) : ((ys.take i).any fun x => x == y) = false := by
  refine List.any_eq_false.mpr fun x hx => ?_
  obtain ⟨j, hj⟩ := List.mem_iff_getElem?.mp hx
  rw [List.getElem?_take] at hj
  by_cases lt : j < i
  · rw [if_pos lt] at hj
    intro z
    have xy : x = y := eq_of_beq z
    obtain ⟨a1, a2⟩ := List.getElem?_eq_some_iff.mp hj
    obtain ⟨b1, b2⟩ := List.getElem?_eq_some_iff.mp e
    have := List.pairwise_iff_getElem.mp nd j i a1 b1 lt
    exact this (by rw [a2, b2, xy])
  · rw [if_neg lt] at hj
    cases hj
/-- one text more -/
theorem next_text {ys : List Str} {i : Nat} {y : Str} {z : Shared} {E : Value → Shared → Prop} {t : Tok} {Q : Shared → Prop} (nd : ys.Nodup) (e : ys[i]? = some y) (few : i ≤ 1000) (h : Holds prog w D ys i z)
    (q : ∀ h' tk, z.toks ≤ tk → Heap.SameBut D z.heap h' → Holds prog w D ys (i + 1) { z with heap := h', toks := tk } → Q { z with heap := h', toks := tk }) : wpAny (model prog w) A (setAdd D (.str y t)) (fun _ z' => Q z') E z := by
  have is_y : (strKind prog w).is y (.str y t) = true := strKind_is _ _ _ _
  have not_yet := fresh_text nd e
  refine wpAny_holding (wpAny_bind ((strKind prog w).pyHash is_y ?_))
  have h1 : Holds prog w D ys i { z with toks := z.toks + 1 } := h.moved fun _ x => x
  refine wpAny_setAddHashed_of (Q := fun _ z' => Q z') is_y rfl h1 (by show i + 1 < 4096; omega) fun h' same put => q h' _ (Nat.le_succ _) same ?_
  rw [not_yet, if_neg Bool.false_ne_true] at put
  refine SetOf_congr put (fun x => ?_) rfl
  show (((ys.take i).any fun u => u == x) || decide (x = y)) = ((ys.take (i + 1)).any fun u => u == x)
  rw [List.take_add_one, e, List.any_append]
  show _ = (((ys.take i).any fun u => u == x) || ([y].any fun u => u == x))
  have one : ([y].any fun u => u == x) = decide (x = y) := by
    rw [List.any_cons, List.any_nil, Bool.or_false]
    by_cases c : x = y
    · rw [c, beq_self_eq_true, decide_eq_true rfl]
    · rw [decide_eq_false c]
      exact beq_eq_false_iff_ne.mpr fun d => c d.symm
  rw [one]
/-- the rest of the texts, taken in one by one -/
theorem rest_texts (W : WalksS prog w A.in1 it fp wr G n P St) (out : D ∉ fp) {ys : List Str} (nd : ys.Nodup) (len : ys.length = n) (few : n ≤ 1000) (val : ∀ i v, P i v → ∃ y t, ys[i]? = some y ∧ v = .str y t) :
    ∀ (m i : Nat) (z : Shared), i + m = n → St i z → Holds prog w D ys i z → (∀ z', Moved (D :: wr) G z z' → Holds prog w D ys n z' → R (.ok (.ret .none)) z') → codeAny (model prog w) A (.builtin "set.update.loop" ⟨[.ref D, .ref it], []⟩) R z := by
  have notW : D ∉ wr := fun h => out (W.sub _ h)
  have wider : ∀ b ∈ wr, b ∈ D :: wr := fun b hb => List.mem_cons_of_mem _ hb
  intro m
  induction m with
  | zero =>
    rintro i z hi at_i has q
    obtain rfl : i = n := by omega
    refine codeAny_builtin PyProof.Rows.F.entry_set_update_loop ?_
    rw [Around.under_plainId PyProof.Rows.F.plain_set_update_loop _]
    refine wpAny_bind (W.done z _ _ at_i fun z' mv => ?_)
    exact wpAny_pure (q z' (mv.mono wider) (has.moved fun o e => mv.heap D o notW e))
  | succ m ih =>
    rintro i z hi at_i has q
    refine codeAny_builtin PyProof.Rows.F.entry_set_update_loop ?_
    rw [Around.under_plainId PyProof.Rows.F.plain_set_update_loop _]
    refine wpAny_bind (W.item i z _ _ (by omega) at_i fun v z1 pv at_i1 mv => ?_)
    obtain ⟨y, t, hy, rfl⟩ := val i v pv
    have has1 := has.moved fun o e => mv.heap D o notW e
    refine wpAny_bind (wpAny_holding (next_text nd hy (by omega) has1 fun h' tk more same has2 => ?_))
    have apart : ∀ b o, b ≠ D → z1.heap.get? b = some o → h'.get? b = some o := fun b o ne x => (same.2 b ne).trans x
    refine wpAny_pure ⟨plainId_quiet PyProof.Rows.F.plain_set_update_loop _, ih (i + 1) _ (by omega) ?_ has2 fun z2 mv2 has3 => ?_⟩
    · exact W.frame _ z1 _ _ at_i1 more fun b hb o x => apart b o (fun c => out (c ▸ hb)) x
    · refine q z2 ?_ has3
      refine Moved.trans W.gtrans ((mv.mono wider).then_heap more fun b o hb x => ?_) mv2
      exact apart b o (fun c => hb (c ▸ List.mem_cons_self)) x
end
section
variable {prog : Program} {w : World} {A : Around} {E : Value → Shared → Prop} {s : Shared}
def bare (led : Bool) : Obj := { cls := .type "set", dict := none, data := .set #[] 0 (.fresh 0 0 led) }
/-- what is so behind: the set is new, holds all of ys, the rest stands -/
def Done (prog : Program) (w : World) (s : Shared) (ys : List Str) (z : Shared) : Prop :=
  ∃ h' tk, z = { s with heap := h', toks := tk } ∧ Holds prog w s.heap.objs.size ys ys.length z ∧ ∀ b o, s.heap.get? b = some o → h'.get? b = some o
theorem text_at : ∀ {us : List Value} {ys : List Str}, StrsAre us ys → ∀ {i : Nat} {v : Value}, us[i]? = some v → ∃ y t, ys[i]? = some y ∧ v = .str y t
  | _, _, .nil, i, v, h => by simp at h
  | _, _, .cons y t r, 0, v, h => ⟨y, t, rfl, (Option.some.inj h).symm⟩
  | _, _, .cons _ _ r, i + 1, v, h => text_at r h
theorem fill_texts {l : Addr} {vs : Array Value} {ys : List Str} {led : Bool} {B : Unit → Shared → Prop} (calm : A.handled = none) (hl : s.heap.IsList l vs) (items : StrsAre vs.toList ys) (nd : ys.Nodup) (few : ys.length ≤ 1000)
    (q : ∀ z, Done prog w s ys z → B () z) :
    wpAny (model prog w) A (pyIter (.ref l)) (fun v z => wpAny (model prog w) A (do let _ ← runValue (Code.builtin "set.update.loop" { pos := [.ref s.heap.objs.size, v] }); pure ()) B E z) E { s with heap := s.heap.push (bare led) } := by
  have at0 : (s.heap.push (bare led)).get? s.heap.objs.size = some (bare led) := Heap.get?_push_size _ rfl
  have lst : (s.heap.push (bare led)).IsList l vs := hl.push _
  have lt : l < s.heap.objs.size := by
    obtain ⟨o, e, _⟩ := hl
    exact Heap.lt_size e
  have size : (s.heap.push (bare led)).objs.size = s.heap.objs.size + 1 := Heap.size_push ..
  have it_l : l ≠ (s.heap.push (bare led)).objs.size := by
    rw [size]
    exact Nat.ne_of_lt (Nat.lt_succ_of_lt lt)
  have len : ys.length = vs.size := by rw [← StrsAre.len_eq items, Array.length_toList]
  refine wpAny_pyIter_list lst (wpAny_bind (wpAny_runValue ?_))
  refine rest_texts ((Walks.list (by rw [Around.in1_handled]; exact calm) _ l it_l vs).toS) (D := s.heap.objs.size) ?_ nd len (by omega) (fun i v hv => ?_) vs.size 0 _ (by omega) ⟨⟨_, Heap.get?_push_size _ rfl, rfl, rfl⟩, lst.push _⟩ ?_ fun z mv has => ?_
  · rw [size]
    intro h
    rcases List.mem_cons.mp h with h | h
    · exact absurd h (Nat.ne_of_lt (Nat.lt_succ_self _))
    · exact Nat.ne_of_gt lt (List.mem_singleton.mp h)
  · exact text_at items (by rw [Array.getElem?_toList]; exact hv)
  · have there : ((s.heap.push (bare led)).push { cls := .type "list_iterator", data := .fields #[.ref l, .int 0 0] }).get? s.heap.objs.size = some (bare led) := Heap.get?_push_of_some _ at0
    exact SetOf_congr ((setObjOf_fresh (knd := strKind prog w) led).setOf there (by show 0 < 4096; decide)) (fun _ => rfl) rfl
  · obtain ⟨h', g', d', tk, os'⟩ := z
    have e1 : g' = s.gens := mv.gens
    have e2 : d' = s.drawn := mv.drawn
    have e3 : os' = s.os := mv.os
    subst e1 e2 e3
    refine wpAny_pure (q _ ⟨h', tk, rfl, by rw [len]; exact has, fun b o e => ?_⟩)
    have lb := Heap.lt_size e
    refine mv.heap b o (fun h => ?_) (Heap.get?_push_of_some _ (Heap.get?_push_of_some _ e))
    rw [size] at h
    rcases List.mem_cons.mp h with h | h
    · exact absurd h (Nat.ne_of_lt lb)
    · exact Nat.ne_of_lt (Nat.lt_succ_of_lt lb) (List.mem_singleton.mp h)
set_option maxHeartbeats 4000000 in
theorem set_of_texts {l : Addr} {vs : Array Value} {ys : List Str} {Q : Value → Shared → Prop} (calm : A.handled = none) (hl : s.heap.IsList l vs) (items : StrsAre vs.toList ys) (nd : ys.Nodup) (few : ys.length ≤ 1000)
    (q : ∀ z, Done prog w s ys z → Q (.ref s.heap.objs.size) z) : wpAny (model prog w) A (call (.type "set") [.ref l]) Q E s := by
  obtain ⟨c, tl, mro⟩ := PySem.F.called_set.mro
  have made := PySem.F.called_set.made
  have below := PySem.F.called_set.sub
  have n1 := PySem.F.called_set.notType
  have n2 := PySem.F.called_set.canCreate
  have tc := PySem.F.typeCall_set_1 (.ref l)
  refine wpAny_call (codeAny_of_tree (wpAny_pure ⟨Code.quiet_builtin _ (by decide +kernel), codeAny_builtin PySem.F.entry_type_call ?_⟩))
  rw [Around.under_plain (weight_type_call_type "set" [.ref l] []) rfl]
  repeat (any_goals (first | assumption | wp_step))
  refine codeAny_mono (code_set_new_1 (.ref l) (E := E) (Q₁ := fun v z => ∃ led, v = .ref s.heap.objs.size ∧ z = { s with heap := s.heap.push (bare led) }) fun led => ⟨led, rfl, rfl⟩) ?_
  rintro (e | fl) z0 h0
  · exact h0
  match fl, h0 with
  | .next, h0 => exact h0.elim
  | .brk, h0 => exact h0.elim
  | .cont, h0 => exact h0.elim
  | .ret v, h0 =>
    obtain ⟨led, rfl, rfl⟩ := h0
    have at0 : (s.heap.push (bare led)).get? s.heap.objs.size = some (bare led) := Heap.get?_push_size _ rfl
    have ty : Shared.TypeIs { s with heap := s.heap.push (bare led) } (.ref s.heap.objs.size) "set" := ⟨_, at0, rfl⟩
    have look := PySem.F.called_set.init.lookup
    have bound := PySem.F.called_set.init.bind (.ref s.heap.objs.size)
    repeat (any_goals (first | assumption | wp_step))
    refine codeAny_mono (codeAny_call_builtin (R := wants (fun v z => v = .none ∧ Done prog w s ys z) E) PySem.F.called_set.init.plain PySem.F.entry_set_init (check_set_init_1 ty ?_)) ?_
    · obtain ⟨ol, hol, hcl, nl, hdl⟩ := hl
      obtain ⟨oc, od, dt, os⟩ := ol
      simp only at hcl hdl
      subst hcl hdl
      have there : (s.heap.push (bare led)).get? l = some { cls := .type "list", dict := od, data := .seq vs nl, slots := os } := Heap.get?_push_of_some _ hol
      have lst : (s.heap.push (bare led)).IsList l vs := ⟨_, there, rfl, nl, rfl⟩
      have b1 := PySem.F.sub_list_set
      have b2 := PySem.F.sub_list_frozenset
      have b3 : (Value.type "list" == Value.type "dict") = false := by decide
      unfold Builtin.«set.__init__» noKeywords Builtin.Frozenset.updateFrom
      generalize iter : pyIter = PI
      wp_walk
      subst iter
      refine wpAny_mono (fill_texts (B := fun _ z => Done prog w s ys z) (by rw [Around.in1_handled, Around.in1_handled]; exact calm) ⟨_, hol, rfl, nl, rfl⟩ items nd few fun z d => d) (fun v z h => ?_) fun _ _ h => h
      exact wpAny_mono h (fun _ _ d => wpAny_pure ⟨rfl, d⟩) fun _ _ h => h
    · rintro (e | fl) z h
      · exact h
      match fl, h with
      | .next, h => exact h.elim
      | .brk, h => exact h.elim
      | .cont, h => exact h.elim
      | .ret v, h =>
        obtain ⟨rfl, d⟩ := h
        repeat (any_goals (first | assumption | wp_step))
        exact q _ d
end
/-- len(set(xs)), xs a list of unlike texts -/
def tLenTexts (K : PySem.W.Frag) (ta : TE) : TE := fun σ H Q => ta σ H fun x H1 => ∃ (l : Addr) (ys : List Str), x = .ref l ∧ SqL K H1 l (ys.map V.str) ∧ ys.Nodup ∧ ys.length ≤ 1000 ∧ Q (.int ys.length) H1
theorem pe_lenTexts {X : Cx} {a : Expr} {ta : TE} {p p2 q pos : Pos} (calm : X.calm = true) (g1 : Gl X "len") (m1 : X.mg "len" = none) (g2 : Gl X "set") (m2 : X.mg "set" = none) (ha : PE X a ta)
    (one : starEach [a] X.env = (false, eval a X.env) :: starEach [] X.env := by rfl) : PE X (.Call (.Name "len" p) [.Call (.Name "set" p2) [a] [] q] [] pos) (tLenTexts X.K ta) := by
  constructor
  intro pins s σ H Q I h
  refine Call_ (ld_blt I g1 m1 boot_len (PyProof.Rows.callWith_builtin1 (PyProof.Rows.args_cons ?_ rfl) rfl rfl))
  refine Call_ (ld_blt I g2 m2 boot_set (PyProof.Rows.callWith_type1 (PyProof.Rows.args_cons ?_ one) one rfl))
  refine thn (ha.run pins s σ H _ I h) ?_
  rintro v s1 ⟨x, H1, I1, r1, l, ys, rfl, hq, nd, few, q1⟩
  cases r1
  obtain ⟨its, rv, pl, _⟩ := I1.list hq
  refine PyProof.Rows.args_nil (set_of_texts (I1.ok.hd calm) pl.isList (by simpa using strsAre_of rv) nd few ?_)
  rintro z ⟨h', tk, rfl, has, kept⟩
  refine PyProof.Rows.args_nil ?_
  obtain ⟨o, es, ep, t, there, ex, hd, _, _, _, hf, hn⟩ := has
  have I2 : Inv X pins σ H1 { s1 with heap := h', toks := tk } := I1.kept fun b o e => kept b o e
  exact call_len_set there ex hd hf (by rw [hn]; omega) ⟨.int ys.length, H1, I2.tok _, ⟨_, by rw [hn]⟩, q1⟩
end Bp
set_option Elab.async false
set_option linter.all false
set_option maxRecDepth 100000
set_option maxHeartbeats 1000000
/-! Bands together. -/
namespace K23
open PySem PySem.Spec PyProof.Rows L2 Bp
/-- an instance of the class at C is one, by isinstance -/
structure IsiTxt (K : PySem.W.Frag) (C : Addr) : Prop where
  ha : PySem.W.findIn K (.ref C) "__class__" = some (some (.builtin "object.__class__"))
  hn : PySem.W.specialIn K (.builtin "object.__class__") "__get__" = some (some (.builtin "getset_descriptor.__get__"))
  htk : PySem.W.takesIn K (.builtin "object.__class__") = some true
  hm : PySem.W.mroIn K C (.type "object") = some true
  self : PySem.W.kitOne K (.ref C) (.ref C) = some true
theorem IsiTxt.ty {K : PySem.W.Frag} {C p dx : Addr} {H : Hp} {fs : List (Str × V)} (t : IsiTxt K C) (cl : Cls K C) (e : H p = some (.ins C dx fs)) : TyX K H (.ref p) (.ref C) := .base (.ins e cl t.ha t.hn t.htk t.hm)
structure BandsOk (bs : List BandL) : Prop where
  each : ∀ b ∈ bs, b.Ok
  lo : 1 ≤ bs.length
  hi : bs.length ≤ 6
  nd : (bs.map (·.name)).Nodup
  all : (bs.map (·.long)).sum ≤ 40
/-- bands stand at ps -/
def AreBands (C : Addr) (H : Hp) (ps : List Addr) (bs : List BandL) : Prop := ps.length = bs.length ∧ ∀ (i : Nat) p b, ps[i]? = some p → bs[i]? = some b → IsBand C H p b
theorem AreBands.kn {C : Addr} {H H' : Hp} {ps : List Addr} {bs : List BandL} (h : AreBands C H ps bs) (k : Kn H H') : AreBands C H' ps bs := ⟨h.1, fun i p b e1 e2 => (h.2 i p b e1 e2).kn k⟩
theorem AreBands.at_ {C : Addr} {H : Hp} {ps : List Addr} {bs : List BandL} (h : AreBands C H ps bs) {i : Nat} {x : V} (e : (ps.map V.ref)[i]? = some x) : ∃ p b, x = .ref p ∧ ps[i]? = some p ∧ bs[i]? = some b ∧ IsBand C H p b := by
  rw [List.getElem?_map] at e
  cases ep : ps[i]? with
  | none =>
    rw [ep] at e
    cases e
  | some p =>
    rw [ep] at e
    have lt : i < bs.length := by
      rw [← h.1]
      exact (List.getElem?_eq_some_iff.mp ep).1
    exact ⟨p, bs[i], (Option.some.inj e).symm, rfl, List.getElem?_eq_getElem lt, h.2 i p _ ep (List.getElem?_eq_getElem lt)⟩
/-- what Band's methods promise -/
structure BandDefs (P : Program) (w : World) (K : PySem.W.Frag) (mg : Str → Option Value) (base : Heap) (C : Addr) (k : Nat) : Prop where
  txt : BandTxt K mg C
  isi : IsiTxt K C
  called : ∃ f fd, Meth K C "called" f ∧ Binds K fd ["self"] [] ∧ FnOk P w K mg base CX0 k f fd ["self"] (sp_Band_called C)
  long : ∃ f fd, Meth K C "long" f ∧ Binds K fd ["self"] [] ∧ FnOk P w K mg base CX0 k f fd ["self"] (sp_Band_long C)
  pace : ∃ f fd, Meth K C "pace" f ∧ Binds K fd ["self"] [] ∧ FnOk P w K mg base CX0 k f fd ["self"] (sp_Band_pace C)
theorem no_called (b : BandL) : (bandF b).lookup ("called" : Str) = none := bandF_no b (by decide +kernel) (by decide +kernel) (by decide +kernel)
theorem no_long (b : BandL) : (bandF b).lookup ("long" : Str) = none := bandF_no b (by decide +kernel) (by decide +kernel) (by decide +kernel)
theorem no_pace (b : BandL) : (bandF b).lookup ("pace" : Str) = none := bandF_no b (by decide +kernel) (by decide +kernel) (by decide +kernel)
section
variable {P : Program} {w : World} {K : PySem.W.Frag} {mg : Str → Option Value} {base : Heap} {C : Addr}
theorem sc_are_bands : FnScope ["thing", "band"] ["thing"] (defScope s_are_bands) := ⟨rfl, rfl, rfl, by decide +kernel, rfl, by decide +kernel, by decide +kernel⟩
def sp_are_bands (C : Addr) : Sp := fun vs H Q _ => ∃ (l : Addr) (ps : List Addr) (bs : List BandL), vs = [.ref l] ∧ H l = some (.lst (ps.map V.ref)) ∧ AreBands C H ps bs ∧ BandsOk bs ∧ ∀ H', Same H H' → Q (.bl true) H'
theorem ok_are_bands {f : Addr} {fd : FuncData} {k : Nat} (B : Blt mg) (T : BandDefs P w K mg base C k) (g6 : ∃ t, mg "_MOST_BANDS" = some (.int 6 t)) (g40 : ∃ t, mg "_MOST_PLACES" = some (.int 40 t)) (D : Def P w K mg base CX0 k "is_listed" s_is_listed ["thing"] sp_is_listed)
    (F : Fun K "are_bands" "are_bands" s_are_bands f fd) : FnOk P w K mg base CX0 (k + 1) f fd ["thing"] (sp_are_bands C) := by
  obtain ⟨f1, fd1, F1, b1, g1, G1⟩ := D.ex
  obtain ⟨fc, fdc, mc, bc, Gc⟩ := T.called
  obtain ⟨fl, fdl, ml, bl, Gl⟩ := T.long
  obtain ⟨t6, g6⟩ := g6
  obtain ⟨t40, g40⟩ := g40
  refine F.ok sc_are_bands (fun vs H Q E h => ?_) (fun cdv A outer s H vs Q E hr h => ?_)
  · obtain ⟨l, ps, bs, rfl, _⟩ := h
    rfl
  · obtain ⟨l, ps, bs, rfl, hl, ar, ok, q⟩ := h
    refine ⟨_, pss_cons (ps_if (PW.pt (pw_or (pt_not (pt_val (pe_call G1 hr rfl g1 F1.kp b1 .nil pass0 (pa_cons (pv 0) pa_nil)))) (pw_or1 (pt_not (pt_chain op_le op_le pe_int (pe_callB call_len (by rfl) B.len PySem.boot_len (pa_cons (pv 0) pa_nil)) (pe_glob (v := .int 6) (by rfl) g6 ⟨_, rfl⟩)))))) (pss_one (ps_ret pe_bl)) pss_nil)
      (pss_cons (ps_if (pt_not (pt_val (pe_callB (cr_all rfl) (by rfl) B.all (by decide +kernel) (pa_cons (pe_lc (own := [("band", 1)]) (g := gName 1) (tt := tYes) rfl sc_are_bands.nd (pi_list (pv 0)) (blkOk_by (own := [("band", 1)]) (N := ["thing", "band"]) (sc := defScope s_are_bands) (by decide +kernel))
          (fun _ _ _ _ _ => pg_name (i := 1) sc_are_bands.nd rfl (Or.inl rfl)) (fun _ _ _ _ _ => pts_nil) (fun _ _ _ _ _ => pe_callB (show CallR _ (.builtin "isinstance") (rIsi K) from call_isi) (by rfl) B.isi (by decide +kernel) (pa_cons (pv 1) (pa_cons (pe_glob (v := .ref C) (by rfl) T.txt.gC rfl) pa_nil)))) pa_nil)))) (pss_one (ps_ret pe_bl)) pss_nil)
      (pss_cons (ps_if (pt_cmpR op_lt (pe_lenTexts rfl (by rfl) B.len (by rfl) B.set (pe_lc (own := [("band", 1)]) (g := gName 1) (tt := tYes) rfl sc_are_bands.nd (pi_list (pv 0)) (blkOk_by (own := [("band", 1)]) (N := ["thing", "band"]) (sc := defScope s_are_bands) (by decide +kernel))
          (fun _ _ _ _ _ => pg_name (i := 1) sc_are_bands.nd rfl (Or.inl rfl)) (fun _ _ _ _ _ => pts_nil) (fun _ _ _ _ _ => pe_meth0 (pv 1) T.txt.cl mc Gc hr bc .nil pass0))) (pe_callB call_len (by rfl) B.len PySem.boot_len (pa_cons (pv 0) pa_nil)) (nomark _)) (pss_one (ps_ret pe_bl)) pss_nil)
      (pss_one (ps_ret (pe_cmpR op_le (pe_callB (cr_sum rfl) (by rfl) B.sum (by decide +kernel) (pa_cons (pe_lc (own := [("band", 1)]) (g := gName 1) (tt := tYes) rfl sc_are_bands.nd (pi_list (pv 0)) (blkOk_by (own := [("band", 1)]) (N := ["thing", "band"]) (sc := defScope s_are_bands) (by decide +kernel))
          (fun _ _ _ _ _ => pg_name (i := 1) sc_are_bands.nd rfl (Or.inl rfl)) (fun _ _ _ _ _ => pts_nil) (fun _ _ _ _ _ => pe_meth0 (pv 1) T.txt.cl ml Gl hr bl .nil pass0)) pa_nil)) (pe_glob (v := .int 40) (by rfl) g40 ⟨_, rfl⟩) (nomark _)))))), ?_⟩
    have lo := ok.lo
    have hi := ok.hi
    have ln : (ps.map V.ref).length = bs.length := by rw [List.length_map, ar.1]
    refine ⟨.ref l, rfl, l, rfl, .inl ⟨_, hl⟩, fun H1 s1 => ⟨true, rfl, noOf rfl ?_⟩⟩
    have hl1 := s1 _ _ hl
    refine ⟨.ref l, rfl, .ref l, bs.length, rfl, .inl ⟨_, SqL.of hl1, ln.symm⟩, 1, bs.length, rfl, rfl, _, rfl, yesOf (decide_eq_true (by omega)) ?_⟩
    refine ⟨_, _, rfl, rfl, _, rfl, ?_⟩
    refine noOf (by rw [decide_eq_true (show (bs.length : Int) ≤ 6 by omega)]; rfl) ?_
    -- all are bands
    refine ⟨.ref l, rfl, l, rfl, ⟨_, SqL.of hl1⟩, fun D nD => ?_⟩
    refine lc_true (H := H1) (walk_list (K := K) (a := l) (xs := ps.map V.ref)) (fun H2 sm => SqL.of (sm _ _ hl1)) (by rw [ln]; omega) nD ?_ ?_ mono_name
    · rintro i x H2 H3 Qy hi2 sm ⟨rfl, hx⟩ qy
      obtain ⟨p, b, rfl, ep, eb, dx, e⟩ := (ar.kn (Kn.of (s1.trans sm))).at_ hx
      exact ⟨rfl, .ref p, rfl, .ref p, .ref C, .ref C, .ref C, true, rfl, .own C, T.isi.ty T.txt.cl e, T.isi.self, qy _ (Same.refl _)⟩
    intro H2 s2 hD
    refine ⟨D, _, rfl, SqL.of hD, ?_⟩
    rw [all_true]
    refine ⟨true, rfl, noOf rfl ?_⟩
    have s12 := s1.trans s2
    have hl2 := s12 _ _ hl
    have ar2 := ar.kn (Kn.of s12)
    -- unlike names
    refine ⟨.ref l, rfl, l, rfl, ⟨_, SqL.of hl2⟩, fun D2 nD2 => ?_⟩
    refine lc_v (H := H2) (walk_list (K := K) (a := l) (xs := ps.map V.ref)) (fun H3 sm => SqL.of (sm _ _ hl2)) (fun i _ r => r = (bs.take i).map fun b => V.str (tx b.name)) (fun _ => rfl) (fun i _ r _ e => ?_) (fun _ _ _ _ _ e => e) nD2 ?_ ?_
    · rw [e, List.length_map, List.length_take]
      omega
    · rintro i x H3 H4 r Qy Qn hi2 sm hr3 ⟨rfl, hx⟩ qy _
      obtain ⟨p, b, rfl, ep, eb, dx, e⟩ := (ar2.kn (Kn.of sm)).at_ hx
      refine ⟨rfl, yes_kept ⟨.ref p, rfl, p, dx, _, rfl, e, no_called b, p, b, rfl, ⟨dx, e⟩, qy _ _ (Same.refl _) ?_⟩⟩
      rw [hr3, List.take_add_one, eb, List.map_append]
      rfl
    · intro H3 r s3 hr3 hD2
      have full : r = ((bs.map fun b => tx b.name).map V.str) := by
        rw [hr3, ln, List.take_length, List.map_map]
        rfl
      rw [full] at hD2
      have nd : (bs.map fun b => tx b.name).Nodup := by
        have e : (bs.map fun b => tx b.name) = (bs.map (·.name)).map tx := by rw [List.map_map]; rfl
        rw [e]
        exact List.pairwise_map.mpr (ok.nd.imp fun {a b} ne z => ne (tx_inj z))
      have s13 := s12.trans s3
      have hl3 := s13 _ _ hl
      have ar3 := ar.kn (Kn.of s13)
      refine ⟨D2, _, rfl, SqL.of hD2, nd, by rw [List.length_map]; omega, .ref l, rfl, .ref l, bs.length, rfl, .inl ⟨_, SqL.of hl3, ln.symm⟩, _, _, rfl, rfl, _, rfl, noOf (decide_eq_false (by rw [List.length_map]; omega)) ?_⟩
      -- not too many places
      refine ⟨.ref l, rfl, l, rfl, ⟨_, SqL.of hl3⟩, fun D3 nD3 => ?_⟩
      refine lc_v (H := H3) (walk_list (K := K) (a := l) (xs := ps.map V.ref)) (fun H4 sm => SqL.of (sm _ _ hl3)) (fun i _ r => r = (bs.take i).map fun b => V.int b.long) (fun _ => rfl) (fun i _ r _ e => ?_) (fun _ _ _ _ _ e => e) nD3 ?_ ?_
      · rw [e, List.length_map, List.length_take]
        omega
      · rintro i x H4 H5 r4 Qy Qn hi2 sm hr4 ⟨rfl, hx⟩ qy _
        obtain ⟨p, b, rfl, ep, eb, dx, e⟩ := (ar3.kn (Kn.of sm)).at_ hx
        refine ⟨rfl, yes_kept ⟨.ref p, rfl, p, dx, _, rfl, e, no_long b, p, b, rfl, ⟨dx, e⟩, qy _ _ (Same.refl _) ?_⟩⟩
        rw [hr4, List.take_add_one, eb, List.map_append]
        rfl
      · intro H4 r4 s4 hr4 hD3
        have full4 : r4 = ((bs.map fun b => (b.long : Int)).map V.int) := by
          rw [hr4, ln, List.take_length, List.map_map]
          rfl
        rw [full4] at hD3
        refine ⟨D3, _, rfl, SqL.of hD3, _, 40, rfl, rfl, ?_⟩
        have sum : ((bs.map fun b => (b.long : Int)).sum) = (((bs.map (·.long)).sum : Nat) : Int) := by
          have go : ∀ l : List BandL, (l.map fun b => (b.long : Int)).sum = (((l.map (·.long)).sum : Nat) : Int) := by
            intro l
            induction l with
            | nil => rfl
            | cons b l ih =>
              rw [List.map_cons, List.map_cons, List.sum_cons, List.sum_cons, ih]
              omega
          exact go bs
        have all := ok.all
        exact qbl (decide_eq_true (by rw [sum]; omega)) (q H4 (s13.trans s4))
end
end K23
set_option Elab.async false
set_option linter.all false
set_option maxRecDepth 100000
set_option maxHeartbeats 1000000
/-! All places. -/
namespace K23
open PySem PySem.Spec PyProof.Rows L2 Bp
def rangeP (b : BandL) (n : Nat) : List PlaceL := (List.range n).map fun i => ⟨b.name, i⟩
def placesL (bs : List BandL) : List PlaceL := bs.flatMap fun b => rangeP b b.long
def RPlace : Hp → V → PlaceL → Prop := fun H v s => ∃ t, v = .ref t ∧ IsPlace H t s
theorem RPlace.kn {H H' : Hp} (k : Kn H H') : ∀ v s, RPlace H v s → RPlace H' v s := fun v s ⟨t, e, h⟩ => ⟨t, e, h.kn k⟩
abbrev Places (H : Hp) (l : List V) (ps : List PlaceL) : Prop := Each RPlace H l ps
theorem placesL_len (bs : List BandL) : (placesL bs).length = (bs.map (·.long)).sum := by
  induction bs with
  | nil => rfl
  | cons b bs ih =>
    show (rangeP b b.long ++ placesL bs).length = _
    rw [List.length_append, ih, List.map_cons, List.sum_cons]
    unfold rangeP
    rw [List.length_map, List.length_range]
theorem placesL_snoc (bs : List BandL) (b : BandL) : placesL (bs ++ [b]) = placesL bs ++ rangeP b b.long := by
  unfold placesL
  rw [List.flatMap_append]
  simp
theorem rangeP_succ (b : BandL) (n : Nat) : rangeP b (n + 1) = rangeP b n ++ [⟨b.name, n⟩] := by
  unfold rangeP
  rw [List.range_succ, List.map_append]
  rfl
theorem rangeP_len (b : BandL) (n : Nat) : (rangeP b n).length = n := by
  unfold rangeP
  rw [List.length_map, List.length_range]
theorem sum_take_le (bs : List BandL) (i : Nat) : ((bs.take i).map (·.long)).sum ≤ (bs.map (·.long)).sum := by
  induction bs generalizing i with
  | nil => simp
  | cons b bs ih =>
    cases i with
    | zero => simp
    | succ i =>
      rw [List.take_succ_cons, List.map_cons, List.map_cons, List.sum_cons, List.sum_cons]
      have := ih i
      omega
section
variable {P : Program} {w : World} {K : PySem.W.Frag} {mg : Str → Option Value} {base : Heap} {C : Addr}
theorem sc_places_of : FnScope ["bands", "band", "number"] ["bands"] (defScope s_places_of) := ⟨rfl, rfl, rfl, by decide +kernel, rfl, by decide +kernel, by decide +kernel⟩
def sp_places_of (C : Addr) : Sp := fun vs H Q _ => ∃ (l : Addr) (ps : List Addr) (bs : List BandL), vs = [.ref l] ∧ H l = some (.lst (ps.map V.ref)) ∧ AreBands C H ps bs ∧ BandsOk bs ∧
  ∀ D r H', Same H H' → H D = none → H' D = some (.lst r) → Places H' r (placesL bs) → Q (.ref D) H'
theorem ok_places_of {f : Addr} {fd : FuncData} {k : Nat} (B : Blt mg) (T : BandDefs P w K mg base C k) (F : Fun K "places_of" "places_of" s_places_of f fd) : FnOk P w K mg base CX0 (k + 1) f fd ["bands"] (sp_places_of C) := by
  obtain ⟨fc, fdc, mc, bc, Gc⟩ := T.called
  obtain ⟨fl, fdl, ml, bl, Gl⟩ := T.long
  refine F.ok sc_places_of (fun vs H Q E h => ?_) (fun cdv A outer s H vs Q E hr h => ?_)
  · obtain ⟨l, ps, bs, rfl, _⟩ := h
    rfl
  · obtain ⟨l, ps, bs, rfl, hl, ar, ok, q⟩ := h
    refine ⟨_, pss_one (ps_ret (pe_lc2 (own := [("band", 1), ("number", 2)]) (vs1 := [2]) (g := gName 1) (tt := tYes) (g1 := gName 2) (tt1 := tYes) rfl sc_places_of.nd (pi_list (pv 0)) (blkOk_by (own := [("band", 1), ("number", 2)]) (N := ["bands", "band", "number"]) (sc := defScope s_places_of) (by decide +kernel)) (by decide)
      (fun _ _ _ _ _ => pg_name (i := 1) sc_places_of.nd rfl (Or.inl rfl)) (fun _ _ _ _ _ => pts_nil) (fun _ _ _ _ _ => pi_range1 (by rfl) B.rng (pa_cons (pe_meth0 (pv 1) T.txt.cl ml Gl hr bl .nil pass0) pa_nil))
      (fun _ _ _ _ _ => pg_name (i := 2) sc_places_of.nd rfl (Or.inl rfl)) (fun _ _ _ _ _ => pts_nil) (fun _ _ _ _ _ => pe_tup (pa_cons (pe_meth0 (pv 1) T.txt.cl mc Gc hr bc .nil pass0) (pa_cons (pv 2) pa_nil))))), ?_⟩
    refine ⟨.ref l, rfl, l, rfl, ⟨_, SqL.of hl⟩, fun D nD => ?_⟩
    have ln : (ps.map V.ref).length = bs.length := by rw [List.length_map, ar.1]
    refine walk_w (walk_list (K := K) (a := l) (xs := ps.map V.ref)) (fun i H1 => Same H H1 ∧ ∃ r, H1 D = some (.lst r) ∧ Places H1 r (placesL (bs.take i))) ⟨same_new nD, [], upd_same, Each.nil⟩ (fun i H1 _ z => SqL.of (z.1 _ _ hl)) ?_ ?_
    · rintro i x H1 H1' hi ⟨sm, r, hD, pl⟩ ⟨rfl, hx⟩
      obtain ⟨p, b, rfl, ep, eb, dx, e⟩ := (ar.kn (Kn.of sm)).at_ hx
      have okb := ok.each b (List.mem_of_getElem? eb)
      have all := ok.all
      have hib := okb.hi
      refine ⟨rfl, yes_kept ?_⟩
      refine ⟨.ref p, rfl, p, dx, _, rfl, e, no_long b, p, b, rfl, ⟨dx, e⟩, b.long, rfl, by omega, by omega, ?_⟩
      have tn : (b.long : Int).toNat = b.long := Int.toNat_natCast _
      rw [tn]
      refine walk_w (walk_range (lo := 0) (n := b.long)) (fun j H2 => Same H H2 ∧ ∃ r, H2 D = some (.lst r) ∧ Places H2 r (placesL (bs.take i) ++ rangeP b j)) ⟨sm, r, hD, ?_⟩ (fun _ _ _ _ => trivial) ?_ ?_
      · have e0 : placesL (bs.take i) ++ rangeP b 0 = placesL (bs.take i) := by
          unfold rangeP
          simp
        rw [e0]
        exact pl
      · rintro j y H2 H2' hj ⟨sm2, r2, hD2, pl2⟩ ⟨rfl, rfl⟩
        have e2 : ∃ dx, H2' p = some (.ins C dx (bandF b)) := (ar.kn (Kn.of sm2)).2 i p b ep eb
        obtain ⟨dx2, e2⟩ := e2
        refine ⟨rfl, yes_kept ?_⟩
        refine ⟨.ref p, rfl, p, dx2, _, rfl, e2, no_called b, p, b, rfl, ⟨dx2, e2⟩, .int (0 + (j : Int)), rfl, (by show 2 ≤ sizeLine; decide), fun t nt => ?_⟩
        have D_t : D ≠ t := ne_of_none hD2 nt
        have few : r2.length ≤ 1000 := by
          rw [pl2.1, List.length_append, placesL_len, rangeP_len]
          have := sum_take_le bs i
          omega
        refine ⟨r2, by rw [upd_ne D_t]; exact hD2, small1000 few, fun c o ec => ?_, r2 ++ [.ref t], upd_same, ?_⟩
        · rw [upd_ne (ne_of_none ec nD), upd_ne (ne_of_none (sm2 _ _ ec) nt)]
          exact sm2 _ _ ec
        · rw [rangeP_succ, ← List.append_assoc]
          have kn : Kn H2' (upd (upd H2' t (.tup [.str (tx b.name), .int (0 + (j : Int))])) D (.lst (r2 ++ [.ref t]))) := (Kn.new nt).trans (Kn.put (by rw [upd_ne D_t]; exact hD2))
          refine (pl2.imp (RPlace.kn kn)).snoc ⟨t, rfl, ?_⟩
          show upd (upd H2' t _) D _ t = _
          rw [upd_ne (fun z => D_t z.symm), upd_same, Int.zero_add]
      · rintro H2 ⟨sm2, r2, hD2, pl2⟩
        refine ⟨sm2, r2, hD2, ?_⟩
        rw [List.take_add_one, eb]
        show Places H2 r2 (placesL (bs.take i ++ [b]))
        rw [placesL_snoc]
        exact pl2
    · rintro H1 ⟨sm, r, hD, pl⟩
      rw [ln, List.take_length] at pl
      exact q D r H1 sm nD hD pl
end
end K23
set_option Elab.async false
set_option linter.all false
set_option maxRecDepth 100000
set_option maxHeartbeats 1000000
/-! Presses for a work. -/
namespace K23
open PySem PySem.Spec PyProof.Rows L2 Bp
/-! ### places as data -/
def placeD (s : PlaceL) : PyData := .tuple [.str (tx s.name), .int s.at_]
theorem dp_place {K : PySem.W.Frag} {H : Hp} {t : Addr} {s : PlaceL} (h : IsPlace H t s) : Dp K H (.ref t) (placeD s) := .tup (SqT.of h) (.cons (.str _) (.cons (.int _) .nil))
theorem lay_tx {m : List Nat} (h : Low m) : PyData.canLay0 (.str (tx m)) = true := by
  rw [PyData.canLay0]
  refine Array.all_eq_true_iff_forall_mem.mpr fun c hc => ?_
  have hc' : c ∈ m := by
    unfold tx at hc
    simpa using hc
  have := (h c hc').2
  exact decide_eq_true (by omega)
theorem lay_place {s : PlaceL} (h : Low s.name) : PyData.canLay0 (placeD s) = true := by
  unfold placeD
  rw [PyData.canLay0, PyData.canLayAll0, PyData.canLayAll0, PyData.canLayAll0, lay_tx h, PyData.canLay0]
  rfl
theorem depth_place (s : PlaceL) : PyData.depth (placeD s) = 1 := by
  unfold placeD
  rw [PyData.depth, PyData.depthAll, PyData.depthAll, PyData.depthAll, PyData.depth, PyData.depth]
  rfl
theorem shaped_place {s : PlaceL} (h : Low s.name) : SeqAt.shaped (placeD s) = true := by
  unfold SeqAt.shaped
  rw [lay_place h, depth_place]
  rfl
theorem lay_places : ∀ {ps : List PlaceL}, (∀ s ∈ ps, Low s.name) → PyData.canLayAll0 (ps.map placeD) = true
  | [], _ => by rw [List.map_nil, PyData.canLayAll0]
  | s :: ps, h => by rw [List.map_cons, PyData.canLayAll0, lay_place (h s (List.mem_cons_self ..)), lay_places fun x hx => h x (List.mem_cons_of_mem _ hx)]; rfl
theorem depth_places : ∀ ps : List PlaceL, PyData.depthAll (ps.map placeD) ≤ 1
  | [] => by rw [List.map_nil, PyData.depthAll]; decide
  | s :: ps => by
    rw [List.map_cons, PyData.depthAll, depth_place]
    have := depth_places ps
    omega
theorem shaped_places {ps : List PlaceL} (h : ∀ s ∈ ps, Low s.name) : SeqAt.shaped (.list (ps.map placeD)) = true := by
  unfold SeqAt.shaped
  rw [PyData.canLay0, lay_places h, PyData.depth]
  have := depth_places ps
  exact decide_eq_true (by omega)
theorem dps_places {K : PySem.W.Frag} {H : Hp} : ∀ {l : List V} {ps : List PlaceL}, Places H l ps → DpAll K H l (ps.map placeD)
  | [], [], _ => .nil
  | [], _ :: _, h => by cases h.1
  | _ :: _, [], h => by cases h.1
  | v :: l, s :: ps, h => by
    obtain ⟨t, rfl, ht⟩ := h.2 0 v s rfl rfl
    exact .cons (dp_place ht) (dps_places ⟨Nat.succ.inj h.1, fun i v x e1 e2 => h.2 (i + 1) v x e1 e2⟩)
theorem dp_places {K : PySem.W.Frag} {H : Hp} {D : Addr} {l : List V} {ps : List PlaceL} (e : H D = some (.lst l)) (h : Places H l ps) : Dp K H (.ref D) (.list (ps.map placeD)) := .lst (SqL.of e) (dps_places h)
theorem in_places {ps : List PlaceL} {s : PlaceL} (low : Low s.name) (h : s ∈ ps) : ((ps.map placeD).any fun z => PyData.eqv z (placeD s)) = true :=
  List.any_eq_true.mpr ⟨placeD s, List.mem_map.mpr ⟨s, h, rfl⟩, SeqAt.eqv_refl _ (lay_place low)⟩
/-- what Press's methods promise -/
structure PressDefs (P : Program) (w : World) (K : PySem.W.Frag) (mg : Str → Option Value) (base : Heap) (C : Addr) (k : Nat) : Prop where
  txt : PressTxt K mg C
  isi : IsiTxt K C
  above : ∃ f fd, Meth K C "above" f ∧ Binds K fd ["self"] [] ∧ FnOk P w K mg base CX0 k f fd ["self"] (sp_Press_above C)
  below : ∃ f fd, Meth K C "below" f ∧ Binds K fd ["self"] [] ∧ FnOk P w K mg base CX0 k f fd ["self"] (sp_Press_below C)
  table : ∃ f fd, Meth K C "table" f ∧ Binds K fd ["self"] [] ∧ FnOk P w K mg base CX0 k f fd ["self"] (sp_Press_table C)
  rhythm : ∃ f fd, Meth K C "rhythm" f ∧ Binds K fd ["self"] [] ∧ FnOk P w K mg base CX0 k f fd ["self"] (sp_Press_rhythm C)
theorem no_above (a b t : Addr) (n : List Nat) : (pressF a b t n).lookup ("above" : Str) = none := pressF_no a b t n (by decide +kernel) (by decide +kernel) (by decide +kernel) (by decide +kernel)
theorem no_below (a b t : Addr) (n : List Nat) : (pressF a b t n).lookup ("below" : Str) = none := pressF_no a b t n (by decide +kernel) (by decide +kernel) (by decide +kernel) (by decide +kernel)
theorem no_table (a b t : Addr) (n : List Nat) : (pressF a b t n).lookup ("table" : Str) = none := pressF_no a b t n (by decide +kernel) (by decide +kernel) (by decide +kernel) (by decide +kernel)
theorem no_rhythm (a b t : Addr) (n : List Nat) : (pressF a b t n).lookup ("rhythm" : Str) = none := pressF_no a b t n (by decide +kernel) (by decide +kernel) (by decide +kernel) (by decide +kernel)
/-- a press that fits signs and places -/
structure FitsWork (signs : List Nat) (pls : List PlaceL) (r : PressL) : Prop where
  ok : r.Ok signs.length
  ab : r.above ∈ pls
  be : r.below ∈ pls
  let_ : ∀ m ∈ r.table, ∀ c ∈ m, c ∈ signs
section
variable {P : Program} {w : World} {K : PySem.W.Frag} {mg : Str → Option Value} {base : Heap} {C : Addr}
theorem sc_is_press_for : FnScope ["thing", "signs", "places", "text", "letter"] ["thing", "signs", "places"] (defScope s_is_press_for) := ⟨rfl, rfl, rfl, by decide +kernel, rfl, by decide +kernel, by decide +kernel⟩
def sp_is_press_for (C : Addr) : Sp := fun vs H Q _ => ∃ (p D : Addr) (signs : List Nat) (l : List V) (pls : List PlaceL) (r : PressL), vs = [.ref p, .str (tx signs), .ref D] ∧ signs.length ≤ 4 ∧ H D = some (.lst l) ∧ Places H l pls ∧ (∀ s ∈ pls, Low s.name) ∧
  IsPress C H p r ∧ FitsWork signs pls r ∧ ∀ H', Same H H' → Q (.bl true) H'
theorem ok_is_press_for {f : Addr} {fd : FuncData} {k : Nat} (B : Blt mg) (T : PressDefs P w K mg base C k) (F : Fun K "is_press_for" "is_press_for" s_is_press_for f fd) : FnOk P w K mg base CX0 (k + 1) f fd ["thing", "signs", "places"] (sp_is_press_for C) := by
  obtain ⟨fa, fda, ma, ba, Ga⟩ := T.above
  obtain ⟨fb, fdb, mb, bb, Gb⟩ := T.below
  obtain ⟨ft, fdt, mt, bt, Gt⟩ := T.table
  refine F.ok sc_is_press_for (fun vs H Q E h => ?_) (fun cdv A outer s H vs Q E hr h => ?_)
  · obtain ⟨p, D, signs, l, pls, r, rfl, _⟩ := h
    rfl
  · obtain ⟨p, D, signs, l, pls, r, rfl, s4, hD, pl, low, ip, fw, q⟩ := h
    have hu65 : A.units + 3 + 65 < cLine := by
      have := hr.un
      have e : (A.deeper (envOfC "is_press_for" (defScope s_is_press_for) s.heap.objs.size f cdv)).units = A.units + 3 := rfl
      omega
    refine ⟨_, pss_cons (ps_if (PW.pt (pw_or (pt_not (pt_val (pe_callB call_isi (by rfl) B.isi (by decide +kernel) (pa_cons (pv 0) (pa_cons (pe_glob (v := .ref C) (by rfl) T.txt.gC rfl) pa_nil)))))
        (pw_or (pt_cmpR (op_notInD hu65) (pe_meth0 (pv 0) T.txt.cl ma Ga hr ba .nil pass0) (pv 2) (by rfl)) (pw_or1 (pt_cmpR (op_notInD hu65) (pe_meth0 (pv 0) T.txt.cl mb Gb hr bb .nil pass0) (pv 2) (by rfl)))))) (pss_one (ps_ret pe_bl)) pss_nil)
      (pss_cons (ps_if (pt_cmpR op_ne (pe_callB call_len (by rfl) B.len PySem.boot_len (pa_cons (pe_meth0 (pv 0) T.txt.cl mt Gt hr bt .nil pass0) pa_nil)) (pe_callB call_len (by rfl) B.len PySem.boot_len (pa_cons (pv 1) pa_nil)) (nomark _)) (pss_one (ps_ret pe_bl)) pss_nil)
      (pss_one (ps_ret (pe_callB (cr_all rfl) (by rfl) B.all (by decide +kernel) (pa_cons (pe_lc2 (own := [("text", 3), ("letter", 4)]) (vs1 := [4]) (g := gName 3) (tt := tYes) (g1 := gName 4) (tt1 := tYes) rfl sc_is_press_for.nd (pi_tup (pe_meth0 (pv 0) T.txt.cl mt Gt hr bt .nil pass0))
        (blkOk_by (own := [("text", 3), ("letter", 4)]) (N := ["thing", "signs", "places", "text", "letter"]) (sc := defScope s_is_press_for) (by decide +kernel)) (by decide)
        (fun _ _ _ _ _ => pg_name (i := 3) sc_is_press_for.nd rfl (Or.inl rfl)) (fun _ _ _ _ _ => pts_nil) (fun _ _ _ _ _ => pi_str (pv 3))
        (fun _ _ _ _ _ => pg_name (i := 4) sc_is_press_for.nd rfl (Or.inl rfl)) (fun _ _ _ _ _ => pts_nil) (fun _ _ _ _ _ => pe_cmpR op_in_sign (pv 4) (pv 1) (by rfl))) pa_nil))))), ?_⟩
    obtain ⟨dx, a, b, t, e, pa⟩ := id ip
    have n4 := fw.ok.tb
    refine ⟨.ref p, rfl, .ref p, .ref C, .ref C, .ref C, true, rfl, .own C, T.isi.ty T.txt.cl e, T.isi.self, true, rfl, noOf rfl ?_⟩
    refine ⟨.ref p, rfl, p, dx, _, rfl, e, no_above _ _ _ _, p, r, rfl, ip, fun a1 ha1 => ?_⟩
    refine ⟨.ref D, rfl, _, _, dp_place ha1, dp_places hD pl, shaped_place fw.ok.a1.low, shaped_places low, _, rfl, noOf (by rw [in_places fw.ok.a1.low fw.ab]; rfl) ?_⟩
    refine ⟨.ref p, rfl, p, dx, _, rfl, e, no_below _ _ _ _, p, r, rfl, ip, fun b1 hb1 => ?_⟩
    refine ⟨.ref D, rfl, _, _, dp_place hb1, dp_places hD pl, shaped_place fw.ok.b1.low, shaped_places low, _, rfl, noOf (by rw [in_places fw.ok.b1.low fw.be]; rfl) ?_⟩
    refine ⟨.ref p, rfl, p, dx, _, rfl, e, no_table _ _ _ _, p, r, rfl, ip, fun t1 ht1 => ?_⟩
    refine ⟨.ref t1, signs.length, rfl, .inr ⟨_, SqT.of ht1, by rw [txs_len, n4.len]⟩, .str (tx signs), rfl, .str (tx signs), signs.length, rfl, ⟨fit_tx (by omega), (tx_len signs).symm⟩, rfl, _, rfl, noOf (by rw [decide_eq_true rfl]; rfl) ?_⟩
    refine ⟨.ref p, rfl, p, dx, _, rfl, e, no_table _ _ _ _, p, r, rfl, ip, fun t2 ht2 => ⟨t2, rfl, ⟨_, SqT.of ht2⟩, fun D2 nD2 => ?_⟩⟩
    have tl : (txs r.table).length = signs.length := by rw [txs_len, n4.len]
    refine walk_w (walk_tup (K := K) (a := t2) (xs := txs r.table)) (fun i H1 => Same H H1 ∧ H1 D2 = some (.lst ((List.replicate (i * signs.length) true).map V.bl))) ⟨same_new nD2, by rw [upd_same, Nat.zero_mul]; rfl⟩ (fun i H1 _ z => SqT.of (z.1 _ _ ht2)) ?_ ?_
    · rintro i x H1 H1' hi ⟨sm, hD2⟩ ⟨rfl, hx⟩
      obtain ⟨m, hm, rfl⟩ : ∃ m, m ∈ r.table ∧ x = .str (tx m) := by
        obtain ⟨m, hm, e⟩ := List.mem_map.mp (List.mem_of_getElem? hx)
        exact ⟨m, hm, e.symm⟩
      obtain ⟨mn, _⟩ := n4.each m hm
      rw [tl] at hi
      have i16 : i * signs.length + signs.length ≤ 100 := by
        have : i * signs.length ≤ 4 * 4 := Nat.mul_le_mul (by omega) s4
        omega
      refine ⟨rfl, yes_kept ?_⟩
      refine ⟨.str (tx m), rfl, tx m, rfl, ?_⟩
      refine walk_w (walk_str (z := tx m)) (fun j H2 => Same H H2 ∧ H2 D2 = some (.lst ((List.replicate (i * signs.length + j) true).map V.bl))) ⟨sm, hD2⟩ (fun _ _ _ _ => trivial) ?_ ?_
      · rintro j y H2 H2' hj ⟨sm2, hD3⟩ ⟨rfl, c, hc, rfl⟩
        have hc' : m[j]? = some c := by rw [← tx_list m, Array.getElem?_toList]; exact hc
        have jl : j < m.length := by rw [← tx_len m]; exact hj
        refine ⟨rfl, yes_kept ?_⟩
        refine ⟨.str (tx [c]), rfl, .str (tx signs), rfl, c, tx signs, rfl, rfl, _, hD3, ?_, fun b o eb => ?_, ?_⟩
        · rw [List.length_map, List.length_replicate]
          exact small1000 (by omega)
        · rw [upd_ne (ne_of_none eb nD2)]
          exact sm2 _ _ eb
        · rw [upd_same, tx_list, decide_eq_true (fw.let_ m hm c (List.mem_of_getElem? hc')), ← Nat.add_assoc, List.replicate_succ', List.map_append]
          rfl
      · rintro H2 ⟨sm2, hD3⟩
        refine ⟨sm2, ?_⟩
        rw [hD3, show (tx m).cps.size = m.length from tx_len m, mn, Nat.succ_mul]
    · rintro H1 ⟨sm, hD2⟩
      refine ⟨D2, _, rfl, SqL.of hD2, ?_⟩
      rw [all_true]
      exact q H1 sm
end
end K23
set_option Elab.async false
set_option linter.all false
set_option maxRecDepth 100000
/-! Dict comprehensions whose keys are tuples. -/
namespace Bp
open PySem PySem.Spec PyProof.Rows L2
/-- what is asked of a turn: the key a tuple of numbers and texts -/
def tDcT (wi : TI) (g : TG) (tt : TT) (tk tv : TE) (vs : List Nat) : TE := fun σ H Q => wi σ H fun J H1 => ∀ D, H1 D = none → ∃ W : Nat → Nat → Hp → Prop, (∃ m, W 0 m (upd H1 D (.dT []))) ∧ ∀ i m H, W i m H →
  (J.stop i H ∧ Q (.ref D) H) ∨ (J.go i H ∧ ∃ Nx : Hp → Prop, (∀ H', Nx H' → ∃ m', m' < m ∧ W (i + 1) m' H') ∧ ∀ x H', J.yld i H x H' → g x (wipe σ vs) H' fun σ2 H2 => wipe σ2 vs = wipe σ vs ∧ tt σ2 H2 fun b H3 =>
    if b = true then tk σ2 H3 fun y H4 => tv σ2 H4 fun z H5 => ∃ (kvs : List (List Key × V)) (k : List Key) (t : Addr), y = .ref t ∧ H5 t = some (.tup (k.map kV)) ∧ H5 D = some (.dT kvs) ∧ kvs.length < sizeLine ∧ Nx (upd H5 D (.dT (putK kvs k z))) else Nx H3)
/-- one entry more -/
theorem put_tuple {X : Cx} {pins : List (Addr × Obj)} {σ : L2.St} {H : Hp} {s : Shared} {E : Value → Shared → Prop} {D t : Addr} {kvs : List (List Key × V)} {k : List Key} {v : V} {r : Value} {Q : Unit → Shared → Prop} (hu : X.A.units + 1 < cLine) (I : Inv X pins σ H s) (hD : H D = some (.dT kvs)) (few : kvs.length < sizeLine)
    (ht : H t = some (.tup (k.map kV))) (rv : RelV v r) (h : ∀ s', Inv X pins σ (upd H D (.dT (putK kvs k v))) s' → Q () s') : wpAny (model X.prog X.w) X.A (dictSet D (.ref t) r) Q E s := by
  obtain ⟨z, hd, xs, rel, dd⟩ := dt_of I.hok hD
  have len : xs.length ≤ sizeLine := by rw [← Paired.length rel]; exact z
  have more := length_putK kvs k v
  refine wpAny_dictSet_heap (hsz := len) (Nat.lt_of_succ_lt hu) (key_of I.hok ht) dd ?_
  intro h' d2 same
  refine h _ ?_
  obtain ⟨o, es, ep, there, r2, r3, r4, _, r5⟩ := d2
  refine d_write I (by rw [hD]; exact True.intro) same ⟨o, there⟩ ⟨by omega, hd, _, (rel.put k ht rv).keeps fun c ys ec => ?_, o, es, ep, there, r2, r3, r4, r5⟩
  rw [upd_ne (ne_of ec hD fun z => nomatch z)]
  exact ec
theorem pe_dcT {X : Cx} {kx vx tg iter : Expr} {ifs : List Expr} {scope : Scope} {own : List (Str × Nat)} {pos : Pos} {wi : TI} {g : TG} {tt : TT} {tk tv : TE} (hu : X.A.units + 1 < cLine) (calm : X.calm = true) (nd : X.N.Nodup) (hi : PI X tg iter wi) (ok : BlkOk X.N X.env.scope scope own)
    (hg : ∀ (s : Shared) (H : Hp) (C : Addr) (cl : List (Str × Addr)) (fp : List Addr), PG (X.blk s H scope (compEnvC scope cl C X.env) fp) tg g) (ht : ∀ (s : Shared) (H : Hp) (C : Addr) (cl : List (Str × Addr)) (fp : List Addr), PTs (X.blk s H scope (compEnvC scope cl C X.env) fp) ifs tt)
    (hk : ∀ (s : Shared) (H : Hp) (C : Addr) (cl : List (Str × Addr)) (fp : List Addr), PE (X.blk s H scope (compEnvC scope cl C X.env) fp) kx tk)
    (hv : ∀ (s : Shared) (H : Hp) (C : Addr) (cl : List (Str × Addr)) (fp : List Addr), PE (X.blk s H scope (compEnvC scope cl C X.env) fp) vx tv) (fold : ∀ x, foldedSetIterable iter X.env x = pure x := by intro _; rfl) :
    PE X (.DictComp kx vx [⟨tg, iter, ifs, 0⟩] scope pos) (tDcT wi g tt tk tv (own.map (·.2))) := by
  constructor
  intro pins s σ H Q I h
  rw [arm_eval_DictComp]
  have cells : ∀ y ∈ scope.names, y.2 = .free → ∃ c, X.env.cells.lookup y.1 = some c := fun y hy e => (ok.free y hy e).elim (fun k => I.ok.has _ (.inl k)) fun k => I.ok.has _ (.inr k)
  refine wpAny_comprehension_free rfl fold (closure_ok cells) ok.kind (fun y hy e => by rw [ok.uniq y hy, e]) (thn (hi.run pins s σ H _ I h) fun _ _ hx => thn hx ?_)
  rintro itv s2 ⟨it, fp, tn, J, H2, rfl, I2, T, st2, f2, q⟩
  refine wpAny_newObj_type (newEnv_comp ?_)
  -- the new dict
  have D_new : H2 s2.heap.objs.size = none := I2.hok.fresh (Nat.le_refl _)
  obtain ⟨W, ⟨m0, w0⟩, turn⟩ := q _ D_new
  have small : ∀ b ∈ fp, b < s2.heap.objs.size := fun b hb => Heap.lt_size (T.obj _ _ st2 b hb).choose_spec.1
  have I3 : Inv X pins σ (upd H2 s2.heap.objs.size (.dT [])) { s2 with heap := s2.heap.push { cls := .type "dict", data := .dict #[] } } :=
    I2.laid (t' := s2.toks) (fun b o e => Heap.get?_push_of_some _ e) (Nat.le_refl _) (dt_empty s2.heap I2.big)
  have f3 : ∀ b ∈ fp, FpOk X pins (upd H2 s2.heap.objs.size (.dT [])) b ∧ b < (s2.heap.push { cls := .type "dict", data := .dict #[] }).objs.size := fun b hb => by
    have lt := small b hb
    refine ⟨⟨?_, (f2 b hb).2⟩, by rw [Heap.size_push]; exact Nat.lt_succ_of_lt lt⟩
    rw [upd_ne (Nat.ne_of_lt lt)]
    exact (f2 b hb).1
  have st3 : tn 0 (s2.heap.push { cls := .type "dict", data := .dict #[] }) := T.keep _ _ _ st2 fun b _ o e => Heap.get?_push_of_some _ e
  have I4 := block_start I3 ok nd f3
  generalize at3 : upd H2 s2.heap.objs.size (.dT []) = H3 at I3 f3 I4 w0
  have out3 : ∀ b ∈ fp, H3 b = none := fun b hb => (f3 b hb).1.1
  generalize whole : ({ s2 with heap := s2.heap.push { cls := .type "dict", data := .dict #[] } } : Shared) = s3 at I3 I4
  have heap3 : s3.heap = s2.heap.push { cls := .type "dict", data := .dict #[] } := by rw [← whole]
  rw [← heap3] at st3 f3
  generalize frame : cellsFrom (s3.heap.objs.size + 1) scope.names (cloFrom X.env.cells scope.names []) = cl at I4
  have st4 : tn 0 (pushCells (s3.heap.push { cls := .type "dict", data := .dict #[] }) scope.names) := T.keep _ _ _ st3 fun b _ o e => pushCells_keeps _ _ _ _ (Heap.get?_push_of_some _ e)
  have rg := hg s3 H3 s3.heap.objs.size cl fp
  have rt := ht s3 H3 s3.heap.objs.size cl fp
  have rk := hk s3 H3 s3.heap.objs.size cl fp
  have rv := hv s3 H3 s3.heap.objs.size cl fp
  have fine : ∀ {σ' : L2.St} {H' : Hp} {z : Shared}, Inv (X.blk s3 H3 scope (compEnvC scope cl s3.heap.objs.size X.env) fp) [] σ' H' z → (∀ b ∈ fp, H' b = none) → ∀ b ∈ fp, FpOk (X.blk s3 H3 scope (compEnvC scope cl s3.heap.objs.size X.env) fp) [] H' b :=
    fun I' n b hb => ⟨n b hb, (I'.ok.exf b hb).1, I'.ok.exfs b hb, .inl hb, fun x c e => (I'.ok.exf b hb).2 x c e, fun p hp => absurd (show p ∈ ([] : List (Addr × Obj)) ++ [] from hp) (by simp)⟩
  suffices loop : codeAny (model X.prog X.w) X.A (.compLoop (.DictComp kx vx [⟨tg, iter, ifs, 0⟩] scope pos) 0 (.ref it) (.ref s2.heap.objs.size) (compEnvC scope cl s3.heap.objs.size X.env))
      (compPost (model X.prog X.w) X.A X.xe none (EP X pins σ Q) (.ref s2.heap.objs.size) s3.heap.objs.size) { s3 with heap := pushCells (s3.heap.push { cls := .type "dict", data := .dict #[] }) scope.names } by
    exact codeAny_compStart_dict loop (T.self X.A 0 _ _ _ st4 loop)
  refine compLoop_anyD (fun n z => ∃ i H', Inv (X.blk s3 H3 scope (compEnvC scope cl s3.heap.objs.size X.env) fp) [] (wipe σ (own.map (·.2))) H' z ∧ tn i z.heap ∧ (∀ b ∈ fp, H' b = none) ∧ W i n H') ?_ m0 ⟨0, H3, I4, st4, out3, w0⟩
  rintro n s5 ⟨i, H5, I5, st5, out5, w5⟩
  rcases turn i n H5 w5 with ⟨stop, last⟩ | ⟨go, Nx, next, step⟩
  · refine thnF (T.done (X.blk s3 H3 scope (compEnvC scope cl s3.heap.objs.size X.env) fp) rfl rfl rfl calm i [] s5 _ H5 (fun _ _ => False) I5 (fine I5 out5) st5 stop) ?_
    rintro r s6 ⟨rfl, I6⟩
    -- out of the block
    have I7 : Inv X pins σ H5 s6 := I3.call' (ch := fp) I6.os I6.base I6.hok I6.bare fun b hb => by
      obtain ⟨_, a1, a2, a3, a4, a5⟩ := (f3 b hb).1
      exact ⟨a3, a1, a4, a5⟩
    have gone : H5 s3.heap.objs.size = none := I6.free
    obtain ⟨m, named, _⟩ := I6.loc
    refine ⟨m, named, fun h' same => ?_⟩
    obtain ⟨g0, g1, g2, g3, g4, g5⟩ := I3.fpOk (H' := H5) (Nat.le_refl s3.heap.objs.size) gone
    exact ⟨.ref _, H5, I7.turned (t' := s6.toks) (fun b o ne e => (same.2 b ne).trans e) g0 g1 g3 g4 g5, rfl, last⟩
  · refine thnF (T.item (X.blk s3 H3 scope (compEnvC scope cl s3.heap.objs.size X.env) fp) rfl rfl rfl calm i [] s5 _ H5 (fun _ _ => False) I5 (fine I5 out5) st5 go) ?_
    rintro r s6 ⟨u, rfl, h6⟩
    refine thnF h6 ?_
    rintro _ s7 ⟨x, H7, I7, r7, y7, st7, out7⟩
    have held := I7.pinned (fine I7 out7) (T.obj _ _ st7)
    refine thnF (rg.run _ s7 _ H7 x u _ held r7 (step x H7 y7)) ?_
    rintro _ s8 ⟨σ8, H8, I8, w8, q8⟩
    refine thnF (rt.run _ s8 σ8 H8 _ I8 q8) ?_
    rintro b s9 ⟨H9, I9, q9⟩
    -- how a turn ends
    have ends : ∀ (z : Shared) (H' : Hp), Inv (X.blk s3 H3 scope (compEnvC scope cl s3.heap.objs.size X.env) fp) ([] ++ pinsAt fp s7.heap) σ8 H' z → Nx H' →
        ∃ m, m < n ∧ ∃ i H', Inv (X.blk s3 H3 scope (compEnvC scope cl s3.heap.objs.size X.env) fp) [] (wipe σ (own.map (·.2))) H' z ∧ tn i z.heap ∧ (∀ b ∈ fp, H' b = none) ∧ W i m H' := by
      intro z H' I' nx
      obtain ⟨m', lt, w'⟩ := next H' nx
      have still : ∀ b ∈ fp, ∀ o, s7.heap.get? b = some o → z.heap.get? b = some o ∧ H' b = none := fun b hb o e => by
        obtain ⟨p1, p2, _⟩ := I'.pin (b, o) (List.mem_append_right _ (List.mem_append_right _ (mem_pinsAt hb e)))
        exact ⟨p1, p2⟩
      have len : (wipe σ (own.map (·.2))).length = σ8.length := by rw [← w8, wipe_length]
      refine ⟨m', lt, i + 1, H', (I'.unpinned (pins := [])).weak len (fun j v e => ?_), T.keep _ _ _ st7 fun b hb o e => (still b hb o e).1, fun b hb => ?_, w'⟩
      · rw [← w8] at e
        exact (wipe_some e).1
      · obtain ⟨o, e, _⟩ := T.obj _ _ st7 b hb
        exact (still b hb o e).2
    cases b with
    | false => exact ends _ _ I9 q9
    | true =>
      refine thnF (rk.run _ s9 σ8 H9 _ I9 q9) ?_
      rintro kv s10 ⟨y, H10, I10, r10, q10⟩
      refine thnF (rv.run _ s10 σ8 H10 _ I10 q10) ?_
      rintro vv s11 ⟨z, H11, I11, r11, kvs, k, t, rfl, ht, hD, few, nx⟩
      cases r10
      exact put_tuple (X := X.blk s3 H3 scope (compEnvC scope cl s3.heap.objs.size X.env) fp) hu I11 hD few ht r11 fun s12 I12 => ends _ _ I12 nx
end Bp
set_option Elab.async false
set_option linter.all false
set_option maxRecDepth 100000
set_option maxHeartbeats 1000000
/-! Works. -/
namespace K23
open PySem PySem.Spec PyProof.Rows L2 Bp
def RPress (C : Addr) : Hp → V → PressL → Prop := fun H v r => ∃ p, v = .ref p ∧ IsPress C H p r
theorem RPress.kn {C : Addr} {H H' : Hp} (k : Kn H H') : ∀ v r, RPress C H v r → RPress C H' v r := fun v r ⟨p, e, h⟩ => ⟨p, e, h.kn k⟩
abbrev Presses (C : Addr) (H : Hp) (l : List V) (rs : List PressL) : Prop := Each (RPress C) H l rs
section
variable {P : Program} {w : World} {K : PySem.W.Frag} {mg : Str → Option Value} {base : Heap} {C : Addr}
theorem sc_are_presses : FnScope ["thing", "signs", "places", "press"] ["thing", "signs", "places"] (defScope s_are_presses) := ⟨rfl, rfl, rfl, by decide +kernel, rfl, by decide +kernel, by decide +kernel⟩
def sp_are_presses (C : Addr) : Sp := fun vs H Q _ => ∃ (a D : Addr) (signs : List Nat) (l m : List V) (pls : List PlaceL) (rs : List PressL), vs = [.ref a, .str (tx signs), .ref D] ∧ signs.length ≤ 4 ∧ H a = some (.lst m) ∧ H D = some (.lst l) ∧ Places H l pls ∧ (∀ s ∈ pls, Low s.name) ∧
  Presses C H m rs ∧ rs.length ≤ 8 ∧ (∀ r ∈ rs, FitsWork signs pls r) ∧ ∀ H', Same H H' → Q (.bl true) H'
theorem ok_are_presses {f : Addr} {fd : FuncData} {k : Nat} (B : Blt mg) (g8 : ∃ t, mg "_MOST_PRESSES" = some (.int 8 t)) (D1 : Def P w K mg base CX0 k "is_listed" s_is_listed ["thing"] sp_is_listed) (D2 : Def P w K mg base CX0 k "is_press_for" s_is_press_for ["thing", "signs", "places"] (sp_is_press_for C))
    (F : Fun K "are_presses" "are_presses" s_are_presses f fd) : FnOk P w K mg base CX0 (k + 1) f fd ["thing", "signs", "places"] (sp_are_presses C) := by
  obtain ⟨f1, fd1, F1, b1, g1, G1⟩ := D1.ex
  obtain ⟨f2, fd2, F2, b2, g2, G2⟩ := D2.ex
  obtain ⟨tk, gl⟩ := g8
  refine F.ok sc_are_presses (fun vs H Q E h => ?_) (fun cdv A outer s H vs Q E hr h => ?_)
  · obtain ⟨a, D, signs, l, m, pls, rs, rfl, _⟩ := h
    rfl
  · obtain ⟨a, D, signs, l, m, pls, rs, rfl, s4, ha, hD, pl, low, pr, few, fit, q⟩ := h
    refine ⟨_, pss_cons (ps_if (PW.pt (pw_or (pt_not (pt_val (pe_call G1 hr rfl g1 F1.kp b1 .nil pass0 (pa_cons (pv 0) pa_nil)))) (pw_or1 (pt_cmpR op_gt (pe_callB call_len (by rfl) B.len PySem.boot_len (pa_cons (pv 0) pa_nil)) (pe_glob (v := .int 8) (by rfl) gl ⟨_, rfl⟩) (nomark _))))) (pss_one (ps_ret pe_bl)) pss_nil)
      (pss_one (ps_ret (pe_callB (cr_all rfl) (by rfl) B.all (by decide +kernel) (pa_cons (pe_lc (own := [("press", 3)]) (g := gName 3) (tt := tYes) rfl sc_are_presses.nd (pi_list (pv 0)) (blkOk_by (own := [("press", 3)]) (N := ["thing", "signs", "places", "press"]) (sc := defScope s_are_presses) (by decide +kernel))
        (fun _ _ _ _ _ => pg_name (i := 3) sc_are_presses.nd rfl (Or.inl rfl)) (fun _ _ _ _ _ => pts_nil) (fun _ _ _ _ _ => pe_call G2 hr rfl g2 F2.kp b2 .nil pass0 (pa_cons (pv 3) (pa_cons (pv 1) (pa_cons (pv 2) pa_nil))))) pa_nil)))), ?_⟩
    refine ⟨.ref a, rfl, a, rfl, .inl ⟨_, ha⟩, fun H1 s1 => ⟨true, rfl, noOf rfl ?_⟩⟩
    have ha1 := s1 _ _ ha
    refine ⟨.ref a, rfl, .ref a, rs.length, rfl, .inl ⟨_, SqL.of ha1, pr.1.symm⟩, rs.length, 8, rfl, rfl, _, rfl, noOf (decide_eq_false (by omega)) ?_⟩
    refine ⟨.ref a, rfl, a, rfl, ⟨_, SqL.of ha1⟩, fun D2 nD2 => ?_⟩
    refine lc_true (H := H1) (walk_list (K := K) (a := a) (xs := m)) (fun H2 sm => SqL.of (sm _ _ ha1)) (by rw [pr.1]; omega) nD2 ?_ ?_ mono_name
    · rintro i x H2 H3 Qy hi sm ⟨rfl, hx⟩ qy
      have sm2 := s1.trans sm
      have kn := Kn.of sm2
      obtain ⟨r, er, p, rfl, ip⟩ := (pr.imp (RPress.kn kn)).at_ hx
      exact ⟨rfl, .ref p, rfl, .str (tx signs), rfl, .ref D, rfl, p, D, signs, l, pls, r, rfl, s4, sm2 _ _ hD, pl.imp (RPlace.kn kn), low, ip, fit r (List.mem_of_getElem? er), fun H4 s4 => qy _ s4⟩
    · intro H2 sm hD2
      refine ⟨D2, _, rfl, SqL.of hD2, ?_⟩
      rw [all_true]
      exact q H2 (s1.trans sm)
end
end K23
set_option Elab.async false
set_option linter.all false
set_option maxRecDepth 100000
set_option maxHeartbeats 2000000
/-! Works, the class. -/
namespace K23
open PySem PySem.Spec PyProof.Rows L2 Bp
theorem PlaceL.ext {a b : PlaceL} (h1 : a.name = b.name) (h2 : a.at_ = b.at_) : a = b := by
  cases a
  cases b
  cases h1
  cases h2
  rfl
instance : DecidableEq PlaceL := fun a b =>
  if h : a.name = b.name ∧ a.at_ = b.at_ then isTrue (PlaceL.ext h.1 h.2) else isFalse fun e => h ⟨by rw [e], by rw [e]⟩
def keyOf (s : PlaceL) : List Key := [.inr (tx s.name), .inl (s.at_ : Int)]
theorem keyOf_inj {a b : PlaceL} (h : keyOf a = keyOf b) : a = b := by
  unfold keyOf at h
  have h1 := (List.cons.inj h).1
  have h2 := (List.cons.inj (List.cons.inj h).2).1
  exact PlaceL.ext (tx_inj (Sum.inr.inj h1)) (Int.ofNat.inj (Sum.inl.inj h2))
theorem keyOf_vals (s : PlaceL) : (keyOf s).map kV = [.str (tx s.name), .int s.at_] := rfl
def numFrom : List PlaceL → Nat → List (List Key × V)
  | [], _ => []
  | s :: r, o => (keyOf s, .int (o : Nat)) :: numFrom r (o + 1)
theorem numFrom_snoc : ∀ (l : List PlaceL) (s : PlaceL) (o : Nat), numFrom (l ++ [s]) o = numFrom l o ++ [(keyOf s, .int ((o + l.length : Nat) : Int))]
  | [], s, o => rfl
  | x :: l, s, o => by
    show (keyOf x, V.int (o : Nat)) :: numFrom (l ++ [s]) (o + 1) = _
    rw [numFrom_snoc l s (o + 1), List.length_cons]
    have e : o + 1 + l.length = o + (l.length + 1) := by omega
    rw [e]
    rfl
theorem numFrom_len : ∀ (l : List PlaceL) (o : Nat), (numFrom l o).length = l.length
  | [], _ => rfl
  | x :: l, o => by
    show (numFrom l (o + 1)).length + 1 = _
    rw [numFrom_len l (o + 1), List.length_cons]
theorem numFrom_val : ∀ (l : List PlaceL) (s : PlaceL) (o : Nat), valV (numFrom l o) (keyOf s) = if s ∈ l then some (.int ((o + l.idxOf s : Nat) : Int)) else none
  | [], s, o => rfl
  | x :: l, s, o => by
    show valV ((keyOf x, V.int (o : Nat)) :: numFrom l (o + 1)) (keyOf s) = _
    by_cases e : x = s
    · subst e
      rw [valV_pos rfl, if_pos (List.mem_cons_self ..), List.idxOf_cons_self]
      rfl
    · rw [valV_neg (fun h => e (keyOf_inj h)), numFrom_val l s (o + 1)]
      by_cases m : s ∈ l
      · rw [if_pos m, if_pos (List.mem_cons_of_mem _ m), List.idxOf_cons, beq_eq_false_iff_ne.mpr e]
        show some (V.int ((o + 1 + l.idxOf s : Nat) : Int)) = some (V.int ((o + (l.idxOf s + 1) : Nat) : Int))
        rw [show o + 1 + l.idxOf s = o + (l.idxOf s + 1) by omega]
      · rw [if_neg m, if_neg (fun h => (List.mem_cons.mp h).elim (fun z => e z.symm) m)]
structure WorkL where
  signs : List Nat
  bands : List BandL
  presses : List PressL
def WorkL.places (k : WorkL) : List PlaceL := placesL k.bands
structure WorkL.Ok (k : WorkL) : Prop where
  sg : K33.Signs k.signs
  bs : BandsOk k.bands
  few : k.presses.length ≤ 8
  fit : ∀ r ∈ k.presses, FitsWork k.signs k.places r
theorem places_low {bs : List BandL} (h : ∀ b ∈ bs, b.Ok) : ∀ s ∈ placesL bs, Nm s.name := fun s hs => by
  obtain ⟨b, hb, h2⟩ := List.mem_flatMap.mp hs
  obtain ⟨i, _, rfl⟩ := List.mem_map.mp h2
  exact (h b hb).nm
theorem places_nd {bs : List BandL} (nd : (bs.map (·.name)).Nodup) : (placesL bs).Nodup := by
  induction bs with
  | nil => exact List.nodup_nil
  | cons b bs ih =>
    show (rangeP b b.long ++ placesL bs).Nodup
    obtain ⟨n1, n2⟩ := List.nodup_cons.mp (show (b.name :: bs.map (·.name)).Nodup from nd)
    refine List.nodup_append.mpr ⟨?_, ih n2, fun x hx y hy e => ?_⟩
    · unfold rangeP
      refine List.pairwise_map.mpr ((List.nodup_range (n := b.long)).imp fun {i j} ne z => ne ?_)
      exact congrArg PlaceL.at_ z
    · obtain ⟨i, _, rfl⟩ := List.mem_map.mp hx
      obtain ⟨c, hc, h2⟩ := List.mem_flatMap.mp hy
      obtain ⟨j, _, rfl⟩ := List.mem_map.mp h2
      exact n1 (List.mem_map.mpr ⟨c, hc, (congrArg PlaceL.name e).symm⟩)
def workF (signs : List Nat) (tb tp lp dn : Addr) : List (Str × V) := [("_signs", .str (tx signs)), ("_bands", .ref tb), ("_presses", .ref tp), ("_places", .ref lp), ("_numbers", .ref dn)]
theorem q_sb : ¬ (("_signs" : Str) = "_bands") := by decide +kernel
theorem q_sp : ¬ (("_signs" : Str) = "_presses") := by decide +kernel
theorem q_sl : ¬ (("_signs" : Str) = "_places") := by decide +kernel
theorem q_sn : ¬ (("_signs" : Str) = "_numbers") := by decide +kernel
theorem q_bp : ¬ (("_bands" : Str) = "_presses") := by decide +kernel
theorem q_bl : ¬ (("_bands" : Str) = "_places") := by decide +kernel
theorem q_bn : ¬ (("_bands" : Str) = "_numbers") := by decide +kernel
theorem q_pl : ¬ (("_presses" : Str) = "_places") := by decide +kernel
theorem q_pn : ¬ (("_presses" : Str) = "_numbers") := by decide +kernel
theorem q_ln : ¬ (("_places" : Str) = "_numbers") := by decide +kernel
theorem workF1 (g : List Nat) : putF "_signs" (.str (tx g)) [] = ([("_signs", .str (tx g))] : List (Str × V)) := rfl
theorem workF2 (g : List Nat) (tb : Addr) : putF "_bands" (.ref tb) ([("_signs", .str (tx g))] : List (Str × V)) = ([("_signs", .str (tx g)), ("_bands", .ref tb)] : List (Str × V)) := by
  rw [putF_cons, if_neg q_sb]
  rfl
theorem workF3 (g : List Nat) (tb tp : Addr) : putF "_presses" (.ref tp) ([("_signs", .str (tx g)), ("_bands", .ref tb)] : List (Str × V)) = ([("_signs", .str (tx g)), ("_bands", .ref tb), ("_presses", .ref tp)] : List (Str × V)) := by
  rw [putF_cons, if_neg q_sp, putF_cons, if_neg q_bp]
  rfl
theorem workF4 (g : List Nat) (tb tp lp : Addr) : putF "_places" (.ref lp) ([("_signs", .str (tx g)), ("_bands", .ref tb), ("_presses", .ref tp)] : List (Str × V)) = ([("_signs", .str (tx g)), ("_bands", .ref tb), ("_presses", .ref tp), ("_places", .ref lp)] : List (Str × V)) := by
  rw [putF_cons, if_neg q_sl, putF_cons, if_neg q_bl, putF_cons, if_neg q_pl]
  rfl
theorem workF5 (g : List Nat) (tb tp lp dn : Addr) : putF "_numbers" (.ref dn) ([("_signs", .str (tx g)), ("_bands", .ref tb), ("_presses", .ref tp), ("_places", .ref lp)] : List (Str × V)) = workF g tb tp lp dn := by
  rw [putF_cons, if_neg q_sn, putF_cons, if_neg q_bn, putF_cons, if_neg q_pn, putF_cons, if_neg q_ln]
  rfl
theorem workF_signs (g : List Nat) (tb tp lp dn : Addr) : (workF g tb tp lp dn).lookup ("_signs" : Str) = some (.str (tx g)) := by
  unfold workF
  rw [lk_cons, if_pos rfl]
theorem workF_bands (g : List Nat) (tb tp lp dn : Addr) : (workF g tb tp lp dn).lookup ("_bands" : Str) = some (.ref tb) := by
  unfold workF
  rw [lk_cons, if_neg (fun e => q_sb e.symm), lk_cons, if_pos rfl]
theorem workF_presses (g : List Nat) (tb tp lp dn : Addr) : (workF g tb tp lp dn).lookup ("_presses" : Str) = some (.ref tp) := by
  unfold workF
  rw [lk_cons, if_neg (fun e => q_sp e.symm), lk_cons, if_neg (fun e => q_bp e.symm), lk_cons, if_pos rfl]
theorem workF_places (g : List Nat) (tb tp lp dn : Addr) : (workF g tb tp lp dn).lookup ("_places" : Str) = some (.ref lp) := by
  unfold workF
  rw [lk_cons, if_neg (fun e => q_sl e.symm), lk_cons, if_neg (fun e => q_bl e.symm), lk_cons, if_neg (fun e => q_pl e.symm), lk_cons, if_pos rfl]
theorem workF_numbers (g : List Nat) (tb tp lp dn : Addr) : (workF g tb tp lp dn).lookup ("_numbers" : Str) = some (.ref dn) := by
  unfold workF
  rw [lk_cons, if_neg (fun e => q_sn e.symm), lk_cons, if_neg (fun e => q_bn e.symm), lk_cons, if_neg (fun e => q_pn e.symm), lk_cons, if_neg (fun e => q_ln e.symm), lk_cons, if_pos rfl]
theorem workF_no (g : List Nat) (tb tp lp dn : Addr) {m : Str} (h1 : ¬ m = "_signs") (h2 : ¬ m = "_bands") (h3 : ¬ m = "_presses") (h4 : ¬ m = "_places") (h5 : ¬ m = "_numbers") : (workF g tb tp lp dn).lookup m = none := by
  unfold workF
  rw [lk_cons, if_neg h1, lk_cons, if_neg h2, lk_cons, if_neg h3, lk_cons, if_neg h4, lk_cons, if_neg h5]
  rfl
/-- what a work's fields hold -/
structure WorkAt (CB CP : Addr) (H : Hp) (tb tp lp dn : Addr) (k : WorkL) : Prop where
  bs : ∃ ps : List Addr, H tb = some (.tup (ps.map V.ref)) ∧ AreBands CB H ps k.bands
  rs : ∃ m, H tp = some (.tup m) ∧ Presses CP H m k.presses
  ls : ∃ l, H lp = some (.lst l) ∧ Places H l k.places
  ns : H dn = some (.dT (numFrom k.places 0))
theorem WorkAt.same {CB CP tb tp lp dn : Addr} {H H' : Hp} {k : WorkL} (h : WorkAt CB CP H tb tp lp dn k) (s : Same H H') : WorkAt CB CP H' tb tp lp dn k := by
  obtain ⟨ps, e1, h1⟩ := h.bs
  obtain ⟨m, e2, h2⟩ := h.rs
  obtain ⟨l, e3, h3⟩ := h.ls
  exact ⟨⟨ps, s _ _ e1, h1.kn (Kn.of s)⟩, ⟨m, s _ _ e2, h2.imp (RPress.kn (Kn.of s))⟩, ⟨l, s _ _ e3, h3.imp (RPlace.kn (Kn.of s))⟩, s _ _ h.ns⟩
/-- a work stands at p -/
def IsWork (CW CB CP : Addr) (H : Hp) (p : Addr) (k : WorkL) : Prop := ∃ dx tb tp lp dn, H p = some (.ins CW dx (workF k.signs tb tp lp dn)) ∧ WorkAt CB CP H tb tp lp dn k
theorem IsWork.same {CW CB CP p : Addr} {H H' : Hp} {k : WorkL} (h : IsWork CW CB CP H p k) (s : Same H H') : IsWork CW CB CP H' p k := by
  obtain ⟨dx, tb, tp, lp, dn, e, z⟩ := h
  exact ⟨dx, tb, tp, lp, dn, s _ _ e, z.same s⟩
end K23
set_option Elab.async false
set_option linter.all false
set_option maxRecDepth 100000
set_option maxHeartbeats 2000000
/-! Works are made. -/
namespace K23
open PySem PySem.Spec PyProof.Rows L2 Bp
/-- what the top says of Work -/
structure WorkTxt (K : PySem.W.Frag) (mg : Str → Option Value) (C : Addr) : Prop where
  cl : Cls K C
  nS : NoAttr K C "_signs"
  nB : NoAttr K C "_bands"
  nR : NoAttr K C "_presses"
  nL : NoAttr K C "_places"
  nN : NoAttr K C "_numbers"
  gC : mg "Work" = some (.ref C)
section
variable {P : Program} {w : World} {K : PySem.W.Frag} {mg : Str → Option Value} {base : Heap} {C CB CP : Addr}
theorem sc_Work_init : FnScope ["self", "signs", "bands", "presses", "place", "number"] ["self", "signs", "bands", "presses"] (defScope s_Work_init) := ⟨rfl, rfl, rfl, by decide +kernel, rfl, by decide +kernel, by decide +kernel⟩
def sp_Work_init (C CB CP : Addr) : Sp := fun vs H Q _ => ∃ (p dx lb lq : Addr) (ps : List Addr) (m : List V) (k : WorkL), vs = [.ref p, .str (tx k.signs), .ref lb, .ref lq] ∧ k.Ok ∧ H lb = some (.lst (ps.map V.ref)) ∧ AreBands CB H ps k.bands ∧ H lq = some (.lst m) ∧ Presses CP H m k.presses ∧
  H p = some (.ins C dx []) ∧ ∀ H', IsWork C CB CP H' p k → (∀ c o, c ≠ p → H c = some o → H' c = some o) → Q .non H'
/-- all but what is at p stays -/
def But (p : Addr) (H H' : Hp) : Prop := ∀ c o, c ≠ p → H c = some o → H' c = some o
theorem But.of {p : Addr} {H H' : Hp} (s : Same H H') : But p H H' := fun c o _ e => s c o e
theorem But.trans {p : Addr} {H H1 H2 : Hp} (a : But p H H1) (b : But p H1 H2) : But p H H2 := fun c o n e => b c o n (a c o n e)
theorem But.put {p : Addr} {H : Hp} (o : HO) : But p H (upd H p o) := fun c u n e => by
  rw [upd_ne n]
  exact e
theorem But.bands {p dx : Addr} {H H' : Hp} {ps : List Addr} {bs : List BandL} (b : But p H H') (hp : H p = some (.ins C dx [])) (h : AreBands CB H ps bs) : AreBands CB H' ps bs :=
  ⟨h.1, fun i q x e1 e2 => by
    obtain ⟨d, e⟩ := h.2 i q x e1 e2
    refine ⟨d, b _ _ (fun z => ?_) e⟩
    rw [z, hp] at e
    cases e⟩
theorem But.presses {p dx : Addr} {H H' : Hp} {m : List V} {rs : List PressL} (b : But p H H') (hp : H p = some (.ins C dx [])) (h : Presses CP H m rs) : Presses CP H' m rs :=
  h.imp fun v r ⟨q, e, d, x, y, t, eq, pa⟩ => by
    have ne : ∀ {c : Addr} {xs : List V}, H c = some (.tup xs) → c ≠ p := fun ec z => by
      rw [z, hp] at ec
      cases ec
    refine ⟨q, e, d, x, y, t, b _ _ (fun z => ?_) eq, b _ _ (ne pa.ab) pa.ab, b _ _ (ne pa.be) pa.be, b _ _ (ne pa.tb) pa.tb⟩
    rw [z, hp] at eq
    cases eq
theorem But.places {p dx : Addr} {H H' : Hp} {fs : List (Str × V)} {l : List V} {pls : List PlaceL} (b : But p H H') (hp : H p = some (.ins C dx fs)) (h : Places H l pls) : Places H' l pls :=
  h.imp fun v s ⟨t, e, ht⟩ => by
    refine ⟨t, e, b _ _ (fun z => ?_) ht⟩
    rw [z] at ht
    have e2 : H p = some (.tup [.str (tx s.name), .int s.at_]) := ht
    rw [hp] at e2
    cases e2
theorem ok_Work_init {f : Addr} {fd : FuncData} {k : Nat} {dv : V} (B : Blt mg) (T : WorkTxt K mg C) (D1 : Def P w K mg base CX0 k "are_signs" s_are_signs ["thing"] sp_are_signs) (D2 : Def P w K mg base CX0 k "are_bands" s_are_bands ["thing"] (sp_are_bands CB))
    (D3 : Def P w K mg base CX0 k "are_presses" s_are_presses ["thing", "signs", "places"] (sp_are_presses CP)) (D4 : Def P w K mg base CX0 k "places_of" s_places_of ["bands"] (sp_places_of CB))
    (F : FD K "__init__" "Work.__init__" s_Work_init [dv] [] f fd) : FnOk P w K mg base CX0 (k + 1) f fd ["self", "signs", "bands", "presses"] (sp_Work_init C CB CP) := by
  obtain ⟨f1, fd1, F1, b1, g1, G1⟩ := D1.ex
  obtain ⟨f2, fd2, F2, b2, g2, G2⟩ := D2.ex
  obtain ⟨f3, fd3, F3, b3, g3, G3⟩ := D3.ex
  obtain ⟨f4, fd4, F4, b4, g4, G4⟩ := D4.ex
  refine F.ok sc_Work_init (fun vs H Q E h => ?_) (fun cdv A outer s H vs Q E hr h => ?_)
  · obtain ⟨p, dx, lb, lq, ps, m, k, rfl, _⟩ := h
    rfl
  · obtain ⟨p, dx, lb, lq, ps, m, k, rfl, ok, hb, ab, hq, pr, hp, q⟩ := h
    refine ⟨_, pss_cons (ps_if (pt_not (pt_val (pe_call G1 hr rfl g1 F1.kp b1 .nil pass0 (pa_cons (pv 1) pa_nil)))) (pss_one ps_never) pss_nil)
      (pss_cons (ps_if (pt_not (pt_val (pe_call G2 hr rfl g2 F2.kp b2 .nil pass0 (pa_cons (pv 2) pa_nil)))) (pss_one ps_never) pss_nil)
      (pss_cons (ps_if (pt_not (pt_val (pe_call G3 hr rfl g3 F3.kp b3 .nil pass0 (pa_cons (pv 3) (pa_cons (pv 1) (pa_cons (pe_call G4 hr rfl g4 F4.kp b4 .nil pass0 (pa_cons (pv 2) pa_nil)) pa_nil)))))) (pss_one ps_never) pss_nil)
      (pss_cons (ps_fld (pv 0) (pv 1) rfl)
      (pss_cons (ps_fld (pv 0) (pe_callTy call_tuple_of (by rfl) B.tuple (by decide +kernel) (pa_cons (pv 2) pa_nil)) rfl)
      (pss_cons (ps_fld (pv 0) (pe_callTy call_tuple_of (by rfl) B.tuple (by decide +kernel) (pa_cons (pv 3) pa_nil)) rfl)
      (pss_cons (ps_fld (pv 0) (pe_call G4 hr rfl g4 F4.kp b4 .nil pass0 (pa_cons (pv 2) pa_nil)) rfl)
      (pss_one (ps_fld (pv 0) (pe_dcT (hu_of hr) (own := [("place", 4), ("number", 5)]) (g := gTup K 2 (gCons (gName 5) (gCons (gName 4) gNil))) (tt := tYes) rfl sc_Work_init.nd (pi_enum (by rfl) B.enu (pa_cons (pe_fld (pv 0) rfl) pa_nil)) (blkOk_by (own := [("place", 4), ("number", 5)]) (N := ["self", "signs", "bands", "presses", "place", "number"]) (sc := defScope s_Work_init) (by decide +kernel))
        (fun _ _ _ _ _ => pg_tup rfl (pgs_cons (pg_name (i := 5) sc_Work_init.nd rfl (Or.inl rfl)) (pgs_cons (pg_name (i := 4) sc_Work_init.nd rfl (Or.inl rfl)) pgs_nil))) (fun _ _ _ _ _ => pts_nil) (fun _ _ _ _ _ => pv 4) (fun _ _ _ _ _ => pv 5)) rfl)))))))), ?_⟩
    have bok := ok.bs
    refine ⟨.str (tx k.signs), rfl, k.signs, rfl, ok.sg, fun H1 s1 => ⟨true, rfl, noOf rfl ?_⟩⟩
    refine ⟨.ref lb, rfl, lb, ps, k.bands, rfl, s1 _ _ hb, ab.kn (Kn.of s1), bok, fun H2 s2 => ⟨true, rfl, noOf rfl ?_⟩⟩
    have s12 := s1.trans s2
    refine ⟨.ref lq, rfl, .str (tx k.signs), rfl, .ref lb, rfl, lb, ps, k.bands, rfl, s12 _ _ hb, ab.kn (Kn.of s12), bok, fun D l H3 s3 nD hD pl => ?_⟩
    have s13 := s12.trans s3
    have sg4 := ok.sg.hi
    refine ⟨lq, D, k.signs, l, m, k.places, k.presses, rfl, sg4, s13 _ _ hq, hD, pl, (fun s hs => (places_low bok.each s hs).low), pr.imp (RPress.kn (Kn.of s13)), ok.few, ok.fit, fun H4 s4 => ⟨true, rfl, noOf rfl ?_⟩⟩
    have s14 := s13.trans s4
    refine ⟨.str (tx k.signs), rfl, .ref p, rfl, p, C, dx, _, rfl, s14 _ _ hp, T.cl, T.nS, (by show 0 < 1000; decide), ?_⟩
    rw [workF1]
    have pb : lb ≠ p := ne_of hb hp (by intro z; cases z)
    have pq : lq ≠ p := ne_of hq hp (by intro z; cases z)
    have bt5 : But p H (upd H4 p (.ins C dx [("_signs", .str (tx k.signs))])) := (But.of s14).trans (But.put _)
    refine ⟨.ref lb, rfl, lb, ps.map V.ref, rfl, .inl ⟨SqL.of (bt5 _ _ pb hb), fun tb ntb => ?_⟩⟩
    have p5 : p ≠ tb := ne_of_none upd_same ntb
    refine ⟨.ref p, rfl, p, C, dx, _, rfl, (by rw [upd_ne p5, upd_same]), T.cl, T.nB, (by show 1 < 1000; decide), ?_⟩
    rw [workF2]
    generalize hH7 : upd (upd (upd H4 p (.ins C dx [("_signs", .str (tx k.signs))])) tb (.tup (ps.map V.ref))) p (.ins C dx [("_signs", .str (tx k.signs)), ("_bands", .ref tb)]) = H7
    have bt7 : But p H H7 := by
      rw [← hH7]
      exact (bt5.trans (But.of (same_new ntb))).trans (But.put _)
    have at7 : H7 p = some (.ins C dx [("_signs", .str (tx k.signs)), ("_bands", .ref tb)]) := by rw [← hH7, upd_same]
    have tb7 : H7 tb = some (.tup (ps.map V.ref)) := by rw [← hH7, upd_ne p5.symm, upd_same]
    refine ⟨.ref lq, rfl, lq, m, rfl, .inl ⟨SqL.of (bt7 _ _ pq hq), fun tp ntp => ?_⟩⟩
    have p7 : p ≠ tp := ne_of_none at7 ntp
    refine ⟨.ref p, rfl, p, C, dx, _, rfl, (by rw [upd_ne p7]; exact at7), T.cl, T.nR, (by show 2 < 1000; decide), ?_⟩
    rw [workF3]
    generalize hH9 : upd (upd H7 tp (.tup m)) p (.ins C dx [("_signs", .str (tx k.signs)), ("_bands", .ref tb), ("_presses", .ref tp)]) = H9
    have bt79 : But p H7 H9 := by
      rw [← hH9]
      exact (But.of (same_new ntp)).trans (But.put _)
    have bt9 : But p H H9 := bt7.trans bt79
    have at9 : H9 p = some (.ins C dx [("_signs", .str (tx k.signs)), ("_bands", .ref tb), ("_presses", .ref tp)]) := by rw [← hH9, upd_same]
    have tp9 : H9 tp = some (.tup m) := by rw [← hH9, upd_ne p7.symm, upd_same]
    refine ⟨.ref lb, rfl, lb, ps, k.bands, rfl, bt9 _ _ pb hb, bt9.bands hp ab, bok, fun D2 l2 H10 s10 nD2 hD2 pl2 => ?_⟩
    have at10 := s10 _ _ at9
    have pD2 : D2 ≠ p := ne_of hD2 at10 (by intro z; cases z)
    refine ⟨.ref p, rfl, p, C, dx, _, rfl, at10, T.cl, T.nL, (by show 3 < 1000; decide), ?_⟩
    rw [workF4]
    generalize hH11 : upd H10 p (.ins C dx [("_signs", .str (tx k.signs)), ("_bands", .ref tb), ("_presses", .ref tp), ("_places", .ref D2)]) = H11
    have bt1011 : But p H10 H11 := by
      rw [← hH11]
      exact But.put _
    have at11 : H11 p = some (.ins C dx [("_signs", .str (tx k.signs)), ("_bands", .ref tb), ("_presses", .ref tp), ("_places", .ref D2)]) := by rw [← hH11, upd_same]
    have pl11 : Places H11 l2 k.places := bt1011.places at10 pl2
    have D11 : H11 D2 = some (.lst l2) := bt1011 _ _ pD2 hD2
    have look : ([("_signs", .str (tx k.signs)), ("_bands", .ref tb), ("_presses", .ref tp), ("_places", .ref D2)] : List (Str × V)).lookup ("_places" : Str) = some (.ref D2) := by
      rw [lk_cons, if_neg (fun e => q_sl e.symm), lk_cons, if_neg (fun e => q_bl e.symm), lk_cons, if_neg (fun e => q_pl e.symm), lk_cons, if_pos rfl]
    refine ⟨.ref p, rfl, p, C, dx, _, _, rfl, at11, T.cl, T.nL, look, D2, l2, rfl, SqL.of D11, fun dn ndn => ?_⟩
    have few : k.places.length ≤ 40 := by
      show (placesL k.bands).length ≤ 40
      rw [placesL_len]
      exact bok.all
    refine walk_w (walk_enum (K := K) (a := D2) (xs := l2)) (fun i H' => Same H11 H' ∧ H' dn = some (.dT (numFrom (k.places.take i) 0))) ⟨same_new ndn, by rw [upd_same]; rfl⟩ (fun i H' _ z => SqL.of (z.1 _ _ D11)) ?_ ?_
    · rintro i x H12 H13 hi ⟨sm, hdn⟩ ⟨t, x1, x2, rfl, nt, rfl, e1, e2⟩
      obtain rfl : V.int (i : Nat) = x1 := Option.some.inj e1
      obtain ⟨pl, ep, tq, rfl, ip⟩ := (pl11.imp (RPlace.kn (Kn.of sm))).at_ e2
      have dt : dn ≠ t := ne_of_none hdn nt
      have tt : tq ≠ t := ne_of_none ip nt
      refine ⟨t, _, rfl, SqT.of upd_same, rfl, _, _, rfl, _, _, rfl, rfl, rfl, yes_kept ?_⟩
      refine ⟨.ref tq, rfl, .int i, rfl, numFrom (k.places.take i) 0, keyOf pl, tq, rfl, ?_, ?_, ?_, ?_, ?_⟩
      · rw [upd_ne tt, keyOf_vals]
        exact ip
      · rw [upd_ne dt]
        exact hdn
      · rw [numFrom_len, List.length_take]
        exact small1000 (by omega)
      · exact fun b o eb => by
          rw [upd_ne (ne_of_none eb ndn), upd_ne (ne_of_none (sm _ _ eb) nt)]
          exact sm _ _ eb
      · have il : i < k.places.length := (List.getElem?_eq_some_iff.mp ep).1
        have new : pl ∉ k.places.take i := fun h => by
          obtain ⟨j, hj⟩ := List.mem_iff_getElem?.mp h
          rw [List.getElem?_take] at hj
          by_cases c : j < i
          · rw [if_pos c] at hj
            obtain ⟨a1, a2⟩ := List.getElem?_eq_some_iff.mp hj
            obtain ⟨b1, b2⟩ := List.getElem?_eq_some_iff.mp ep
            exact List.pairwise_iff_getElem.mp (places_nd bok.nd) j i a1 b1 c (a2.trans b2.symm)
          · rw [if_neg c] at hj
            cases hj
        have none_ : valV (numFrom (k.places.take i) 0) (keyOf pl) = none := by rw [numFrom_val, if_neg new]
        rw [upd_same, putK_new _ none_, List.take_add_one, ep]
        show _ = some (HO.dT (numFrom (k.places.take i ++ [pl]) 0))
        rw [numFrom_snoc, List.length_take, Nat.zero_add, Nat.min_eq_left (Nat.le_of_lt il)]
    · rintro H12 ⟨sm, hdn⟩
      rw [pl11.1, List.take_length] at hdn
      have at12 := sm _ _ at11
      refine ⟨.ref p, rfl, p, C, dx, _, rfl, at12, T.cl, T.nN, (by show 4 < 1000; decide), ?_⟩
      rw [workF5]
      have bt1112 : But p H11 (upd H12 p (.ins C dx (workF k.signs tb tp D2 dn))) := (But.of sm).trans (But.put _)
      have bt912 : But p H9 (upd H12 p (.ins C dx (workF k.signs tb tp D2 dn))) := ((But.of s10).trans bt1011).trans bt1112
      have btF := bt9.trans bt912
      have ptb : tb ≠ p := fun z => p5 z.symm
      have ptp : tp ≠ p := fun z => p7 z.symm
      have pdn : dn ≠ p := ne_of hdn at12 (by intro z; cases z)
      refine q _ ⟨dx, tb, tp, D2, dn, upd_same, ⟨ps, bt912 _ _ ptb (bt79 _ _ ptb tb7), btF.bands hp ab⟩, ⟨m, bt912 _ _ ptp tp9, btF.presses hp pr⟩, ⟨l2, bt1112 _ _ pD2 D11, bt1112.places at11 pl11⟩, ?_⟩ btF
      rw [upd_ne pdn]
      exact hdn
end
end K23
set_option Elab.async false
set_option linter.all false
set_option maxRecDepth 100000
set_option maxHeartbeats 2000000
/-! What works tell; where things come. -/
namespace K23
open PySem PySem.Spec PyProof.Rows L2 Bp
section
variable {P : Program} {w : World} {K : PySem.W.Frag} {mg : Str → Option Value} {base : Heap} {CW CB CP : Addr}
def sp_Work_bands (CW CB CP : Addr) : Sp := fun vs H Q _ => ∃ (p : Addr) (k : WorkL), vs = [.ref p] ∧ IsWork CW CB CP H p k ∧ ∀ l ps H', Same H H' → H' l = some (.lst (ps.map V.ref)) → AreBands CB H' ps k.bands → Q (.ref l) H'
def sp_Work_presses (CW CB CP : Addr) : Sp := fun vs H Q _ => ∃ (p : Addr) (k : WorkL), vs = [.ref p] ∧ IsWork CW CB CP H p k ∧ ∀ l m H', Same H H' → H' l = some (.lst m) → Presses CP H' m k.presses → Q (.ref l) H'
def sp_has_place (CW CB CP : Addr) : Sp := fun vs H Q _ => ∃ (p t : Addr) (k : WorkL) (s : PlaceL), vs = [.ref p, .ref t] ∧ IsWork CW CB CP H p k ∧ IsPlace H t s ∧ Nm s.name ∧ ∀ H', Same H H' → Q (.bl (decide (s ∈ k.places))) H'
def sp_place_in (CW CB CP : Addr) : Sp := fun vs H Q _ => ∃ (p t : Addr) (k : WorkL) (s : PlaceL), vs = [.ref p, .ref t] ∧ IsWork CW CB CP H p k ∧ IsPlace H t s ∧ Nm s.name ∧ s ∈ k.places ∧ ∀ H', Same H H' → Q (.int (k.places.idxOf s : Nat)) H'
def sp_has_press (CW CB CP : Addr) : Sp := fun vs H Q _ => ∃ (p : Addr) (k : WorkL) (i : Int), vs = [.ref p, .int i] ∧ IsWork CW CB CP H p k ∧ Q (.bl (decide (0 ≤ i ∧ i ≤ (k.presses.length : Int) - 1))) H
theorem ok_Work_bands {f : Addr} {fd : FuncData} {k : Nat} (B : Blt mg) (T : WorkTxt K mg CW) (F : Fun K "bands" "Work.bands" s_Work_bands f fd) : FnOk P w K mg base CX0 (k + 1) f fd ["self"] (sp_Work_bands CW CB CP) := by
  refine F.ok (N := ["self"]) ⟨rfl, rfl, rfl, by decide +kernel, rfl, by decide +kernel, by decide +kernel⟩ (fun vs H Q E h => ?_) (fun cdv A outer s H vs Q E hr h => ?_)
  · obtain ⟨p, k, rfl, _⟩ := h
    rfl
  · obtain ⟨p, k, rfl, ⟨dx, tb, tp, lp, dn, e, z⟩, q⟩ := h
    obtain ⟨ps, eb, ab⟩ := z.bs
    refine ⟨_, pss_one (ps_ret (pe_callTy call_list_of (by rfl) B.list (by decide +kernel) (pa_cons (pe_fld (pv 0) rfl) pa_nil))), ?_⟩
    exact ⟨.ref p, rfl, p, CW, dx, _, _, rfl, e, T.cl, T.nB, workF_bands _ _ _ _ _, tb, _, rfl, .inr (SqT.of eb), fun l nl => q l ps _ (same_new nl) upd_same (ab.kn (Kn.new nl))⟩
theorem ok_Work_presses {f : Addr} {fd : FuncData} {k : Nat} (B : Blt mg) (T : WorkTxt K mg CW) (F : Fun K "presses" "Work.presses" s_Work_presses f fd) : FnOk P w K mg base CX0 (k + 1) f fd ["self"] (sp_Work_presses CW CB CP) := by
  refine F.ok (N := ["self"]) ⟨rfl, rfl, rfl, by decide +kernel, rfl, by decide +kernel, by decide +kernel⟩ (fun vs H Q E h => ?_) (fun cdv A outer s H vs Q E hr h => ?_)
  · obtain ⟨p, k, rfl, _⟩ := h
    rfl
  · obtain ⟨p, k, rfl, ⟨dx, tb, tp, lp, dn, e, z⟩, q⟩ := h
    obtain ⟨m, em, pr⟩ := z.rs
    refine ⟨_, pss_one (ps_ret (pe_callTy call_list_of (by rfl) B.list (by decide +kernel) (pa_cons (pe_fld (pv 0) rfl) pa_nil))), ?_⟩
    exact ⟨.ref p, rfl, p, CW, dx, _, _, rfl, e, T.cl, T.nR, workF_presses _ _ _ _ _, tp, _, rfl, .inr (SqT.of em), fun l nl => q l m _ (same_new nl) upd_same (pr.imp (RPress.kn (Kn.new nl)))⟩
theorem ok_has_place {f : Addr} {fd : FuncData} {k : Nat} (T : WorkTxt K mg CW) (D : Def P w K mg base CX0 k "is_place" s_is_place ["thing"] sp_is_place) (F : Fun K "has_place" "Work.has_place" s_Work_has_place f fd) : FnOk P w K mg base CX0 (k + 1) f fd ["self", "thing"] (sp_has_place CW CB CP) := by
  obtain ⟨f1, fd1, F1, b1, g1, G1⟩ := D.ex
  refine F.ok (N := ["self", "thing"]) ⟨rfl, rfl, rfl, by decide +kernel, rfl, by decide +kernel, by decide +kernel⟩ (fun vs H Q E h => ?_) (fun cdv A outer s H vs Q E hr h => ?_)
  · obtain ⟨p, t, k, s, rfl, _⟩ := h
    rfl
  · obtain ⟨p, t, k, s, rfl, iw, ip, nm, q⟩ := h
    refine ⟨_, pss_one (ps_ret (pe_and (pe_call G1 hr rfl g1 F1.kp b1 .nil pass0 (pa_cons (pv 1) pa_nil)) (pe_one (pe_cmp (pc_din (hu_of hr) (pv 1) (pe_fld (pv 0) rfl)))))), ?_⟩
    refine ⟨.ref t, rfl, t, s.name, s.at_, rfl, ip, nm, fun H1 sm => ⟨true, rfl, iteT ?_⟩⟩
    obtain ⟨dx, tb, tp, lp, dn, e, z⟩ := iw.same sm
    have ip1 : IsPlace H1 t s := sm _ _ ip
    refine ⟨.ref t, rfl, .ref p, rfl, p, CW, dx, _, _, rfl, e, T.cl, T.nN, workF_numbers _ _ _ _ _, dn, _, rfl, DGet.t (k := keyOf s) z.ns (by rw [keyOf_vals]; exact ip1), ?_⟩
    have val := numFrom_val k.places s 0
    have q1 := q H1 sm
    by_cases m : s ∈ k.places
    · rw [if_pos m] at val
      rw [decide_eq_true m] at q1
      rw [val]
      exact q1
    · rw [if_neg m] at val
      rw [decide_eq_false m] at q1
      rw [val]
      exact q1
theorem ok_place_in {f fh : Addr} {fd fdh : FuncData} {k : Nat} (T : WorkTxt K mg CW) (mh : Meth K CW "has_place" fh) (bh : Binds K fdh ["self", "thing"] []) (Gh : FnOk P w K mg base CX0 k fh fdh ["self", "thing"] (sp_has_place CW CB CP))
    (F : Fun K "place_in" "Work.place_in" s_Work_place_in f fd) : FnOk P w K mg base CX0 (k + 1) f fd ["self", "place"] (sp_place_in CW CB CP) := by
  refine F.ok (N := ["self", "place"]) ⟨rfl, rfl, rfl, by decide +kernel, rfl, by decide +kernel, by decide +kernel⟩ (fun vs H Q E h => ?_) (fun cdv A outer s H vs Q E hr h => ?_)
  · obtain ⟨p, t, k, s, rfl, _⟩ := h
    rfl
  · obtain ⟨p, t, k, s, rfl, iw, ip, nm, m, q⟩ := h
    refine ⟨_, pss_cons (ps_if (pt_not (pt_val (pe_meth (pv 0) T.cl mh Gh hr bh .nil pass0 (pa_cons (pv 1) pa_nil)))) (pss_one ps_never) pss_nil) (pss_one (ps_ret (pe_dget (hu_of hr) (pe_fld (pv 0) rfl) (pv 1) (fun _ _ => rfl)))), ?_⟩
    obtain ⟨dx0, tb0, tp0, lp0, dn0, e0, z0⟩ := id iw
    refine ⟨.ref p, rfl, p, dx0, _, rfl, e0, workF_no _ _ _ _ _ (by decide +kernel) (by decide +kernel) (by decide +kernel) (by decide +kernel) (by decide +kernel), .ref t, rfl, p, t, k, s, rfl, iw, ip, nm, fun H1 sm => ⟨_, rfl, ?_⟩⟩
    refine noOf (by rw [decide_eq_true m]; rfl) ?_
    obtain ⟨dx, tb, tp, lp, dn, e, z⟩ := iw.same sm
    have ip1 : IsPlace H1 t s := sm _ _ ip
    have g := DGet.t (k := keyOf s) z.ns (by rw [keyOf_vals]; exact ip1)
    rw [numFrom_val, if_pos m, Nat.zero_add] at g
    exact ⟨.ref p, rfl, p, CW, dx, _, _, rfl, e, T.cl, T.nN, workF_numbers _ _ _ _ _, .ref t, rfl, dn, _, rfl, g, q H1 sm⟩
theorem ok_has_press {f : Addr} {fd : FuncData} {k : Nat} (B : Blt mg) (T : WorkTxt K mg CW) (D : Def P w K mg base CX0 k "is_within" s_is_within ["thing", "least", "most"] sp_is_within) (F : Fun K "has_press" "Work.has_press" s_Work_has_press f fd) : FnOk P w K mg base CX0 (k + 1) f fd ["self", "thing"] (sp_has_press CW CB CP) := by
  obtain ⟨f1, fd1, F1, b1, g1, G1⟩ := D.ex
  refine F.ok (N := ["self", "thing"]) ⟨rfl, rfl, rfl, by decide +kernel, rfl, by decide +kernel, by decide +kernel⟩ (fun vs H Q E h => ?_) (fun cdv A outer s H vs Q E hr h => ?_)
  · obtain ⟨p, k, i, rfl, _⟩ := h
    rfl
  · obtain ⟨p, k, i, rfl, ⟨dx, tb, tp, lp, dn, e, z⟩, q⟩ := h
    obtain ⟨m, em, pr⟩ := z.rs
    refine ⟨_, pss_one (ps_ret (pe_call G1 hr rfl g1 F1.kp b1 .nil pass0 (pa_cons (pv 1) (pa_cons pe_int (pa_cons (pe_op op_sub (pe_callB call_len (by rfl) B.len PySem.boot_len (pa_cons (pe_fld (pv 0) rfl) pa_nil)) pe_int) pa_nil))))), ?_⟩
    exact ⟨.int i, rfl, .ref p, rfl, p, CW, dx, _, _, rfl, e, T.cl, T.nR, workF_presses _ _ _ _ _, .ref tp, k.presses.length, rfl, .inr ⟨m, SqT.of em, pr.1.symm⟩, _, 1, rfl, rfl, i, 0, _, rfl, q⟩
end
end K23
set_option Elab.async false
set_option linter.all false
set_option maxRecDepth 100000
set_option maxHeartbeats 1000000
/-! Own exception classes straight over any built-in one, whose __init__ is walked as a def. -/
namespace Bp
open PySem PySem.Spec PyProof.Rows L2
section
open PySem.Builtin PySem.Builtin.ObjectAttr
variable {prog : Program} {w : World} {A : Around} {R : Result → Shared → Prop} {hp : Heap} {g : Array GenState} {d : Drawn} {t : Nat} {os : OsState} {B : String} {bm : List Value}
/-- self.name = v, where the exception has no dict as yet -/
theorem first_store {K : PySem.W.Frag} {name : Str} {tk : Tok} {v : Value} {x C : Addr} {fv : Array Value} {cd : ClassData} (SF : StoreFacts B bm "object.__setattr__" "object")
    (X : K.In hp) (hx : hp.get? x = some { cls := .ref C, data := .fields fv }) (hcd : PySem.W.clsIn K C = some cd) (mro : cd.mro = .ref C :: bm) (hasD : cd.hasDict = true) (no : PySem.W.findIn K (.ref C) name = some none)
    (hq : ∀ h' tk' dx, (∀ b o, b ≠ x → hp.get? b = some o → h'.get? b = some o) → hp.objs.size ≤ dx → dx ≠ x → h'.get? x = some { cls := .ref C, dict := some dx, data := .fields fv } →
      h'.Ns1 dx (fun y => if y = name then some v else none) → R (.ok (.ret .none)) ⟨h', g, d, tk', os⟩) :
    codeAny (model prog w) A (.call (.builtin "object.__setattr__") ⟨[.ref x, .str name tk, v], []⟩) R ⟨hp, g, d, t, os⟩ := by
  have I : PySem.W.InstAt hp x { cls := .ref C, data := .fields fv } C none := ⟨hx, rfl, rfl, trivial⟩
  have apart : x ≠ hp.objs.size := Nat.ne_of_lt (Heap.lt_size hx)
  have isObj : PySem.W.mroIn K C (.type "object") = some true := by
    unfold PySem.W.mroIn
    rw [hcd, Option.bind_some, mro, List.contains_cons, SF.hasOwner, Bool.or_true]
    rfl
  have sub : PySem.W.Looks (model prog w) hp (isInstance (.ref x) (.type "object")) true := I.type.andThen (PySem.W.looks_mroIn X isObj)
  have passes : refuseLoop (.ref x) "__setattr__" cd.mro = pure () := by
    rw [mro, refuseLoop_ref]
    exact SF.passes _
  have order : PySem.W.Looks (model prog w) hp (mroOf (.ref C)) cd.mro := (PySem.W.looks_clsIn X hcd).andThen .now
  have taker : PySem.W.Looks (model prog w) hp (storeTaker? none) none := .now
  have data : PySem.W.Looks (model prog w) hp (classData C) cd := PySem.W.looks_clsIn X hcd
  refine codeAny_call_builtin SF.slot.plain SF.entry ?_
  refine @PySem.W.check_slot (model prog w) _ _ ⟨hp, g, d, t, os⟩ "object.__setattr__" "object" "__setattr__"
    (.ref x) [.str name tk, v] [] _ SF.kind SF.split sub (SF.args (.ref x) (.str name tk) v) ?_
  rw [PySem.W.osa_eq, refuse_eq]
  refine wpAny_bind (wpAny_bind (I.type.at (wpAny_bind (order.at ?_))))
  rw [passes]
  refine wpAny_pure (wpAny_bind (I.type.at (wpAny_bind ((PySem.W.looks_findIn X no).at (wpAny_bind (taker.at ?_))))))
  show wpAny _ _ (storeInOwnDict (.ref x) (.ref C) (.str name tk) name v false) _ _ _
  obtain ⟨nm, bs, mr, ns, qn, hd, sn, sb, ab, col, del⟩ := cd
  cases (show hd = true from hasD)
  unfold storeInOwnDict ownDictForStores
  repeat
    first
    | with_reducible refine PySem.HandSPX.store_in_new ?_ ?_
    | with_reducible refine wpAny_loadPart_at hx ?_
    | with_reducible refine data.at ?_
    | wp_step
  · refine ⟨_, #[], _, (Heap.get?_update_ne _ _ _ _ apart.symm).trans (Heap.get?_push_at rfl rfl), rfl, fun e he => ?_, fun _ => rfl⟩
    simp at he
  · intro h' tk' ns' but
    have hx1 : (hp.push { cls := .type "dict", data := .dict #[] }).get? x = some { cls := .ref C, data := .fields fv } := Heap.get?_push_of_some _ hx
    refine hq h' tk' hp.objs.size (fun b o hb ho => ?_) (Nat.le_refl _) apart.symm ((but.2 x apart).trans (Heap.get?_update_self _ hx1 rfl)) ns'
    have h1 := Heap.get?_push_of_some { cls := .type "dict", data := .dict #[] } ho
    exact (but.2 b (Nat.ne_of_lt (Heap.lt_size ho))).trans ((Heap.get?_update_ne _ _ _ _ hb).trans h1)
end

/-- what the written part says of such a class: straight over the built-in one whose maker is newId and whose chain is bm -/
structure Oex (K : PySem.W.Frag) (C : Addr) (newId : String) (bm : List Value) : Prop where
  cls : ∃ nm q N bs sn sub ab col dd k0 k1 k2 k3 k5, K.lookup C = some (excClassObj nm q C N bs bm true sn sub ab col dd k0 k1 k2 k3 k5 newId)
  sa : PySem.W.findIn K (.ref C) "__setattr__" = some (some (.builtin "object.__setattr__"))
  exC : PySem.W.subIn K (.ref C) (.type "BaseException") = some true
  tyC : PySem.W.typeIn K (.ref C) = some (.type "type")
  kC : PySem.W.keepIn K (.ref C) = true
section
variable {X : Cx} {pins : List (Addr × Obj)} {σ : L2.St} {H : Hp} {s : Shared} {a C : Addr} {f : Str} {y : V} {u : Value} {Q : Unit → Shared → Prop} {E : Value → Shared → Prop} {A : Around} {B newId : String} {bm : List Value}
theorem keep_first (SF : StoreFacts B bm "object.__setattr__" "object") (T : Oex X.K C newId bm) (I : Inv X pins σ H s) (e : H a = some (exo a C none)) (no : PySem.W.findIn X.K (.ref C) f = some none) (ry : RelV y u)
    (h : ∀ dx s', H dx = none → dx ≠ a → Inv X pins σ (upd (upd H dx (exd dx [(f, y)])) a (exo a C (some dx))) s' → Q () s') : wpAny (model X.prog X.w) A (setAttr (.ref a) f u) Q E s := by
  obtain ⟨nm, q, N, bs, sn, sub, ab, col, dd, k0, k1, k2, k3, k5, hC⟩ := T.cls
  have hcl : PySem.W.clsIn X.K C = some ⟨nm, bs, .ref C :: bm, N, q, true, sn, sub, ab, col, false⟩ := by
    unfold PySem.W.clsIn
    rw [hC]
  obtain ⟨t1, at_⟩ := exo_at I.hok e
  obtain ⟨hp, g, d, t, os⟩ := s
  refine PySem.W.set_plain I.kIn (ox := ⟨.ref C, none, .fields #[.ref t1, .none, .none, .none, .bool false, .none], #[]⟩) (od := none) ⟨at_, rfl, rfl, trivial⟩ T.sa ?_
  refine first_store SF I.kIn at_ hcl rfl rfl no ?_
  intro h' tk' dx kept new apart there ns
  have free : H dx = none := I.hok.fresh new
  have old : ∀ {b : Addr} {o : Obj}, hp.get? b = some o → b ≠ dx := fun z => Nat.ne_of_lt (Nat.lt_of_lt_of_le (Heap.lt_size z) new)
  have notA : ∀ {b : Addr}, H b = none → b ≠ a := fun n z => by
    rw [z, e] at n
    cases n
  have same : ∀ {b : Addr} {o : HO}, H b = some o → b ≠ a → upd (upd H dx (exd dx [(f, y)])) a (exo a C (some dx)) b = some o := fun z n => by
    rw [upd_ne n, upd_ne (ne_of_none z free)]
    exact z
  have U : Un X.fs [] H (upd (upd H dx (exd dx [(f, y)])) a (exo a C (some dx))) hp h' := by
    refine ⟨fun b o z n _ _ => kept b o (notA n) z, fun b o z n _ _ => ⟨o.slots, kept b o (notA n) z⟩, fun b o z n _ => ?_, fun b o z _ => ?_, fun b xs z => same z (at_ne e z exo_tup), fun b o v z => same z (at_ne e z exo_frz), fun b ps z => ⟨#[], ?_⟩⟩
    · rw [upd_ne (notA n), upd_ne (old z)]
      exact n
    · by_cases c : b = a
      · rw [c]
        exact ⟨_, there⟩
      · exact ⟨o, kept b o c z⟩
    · rw [same z (at_ne e z exo_tbl)]
      simp
  refine h dx _ free apart (I.un (t' := tk') U ?_)
  intro b o z
  by_cases c : b = a
  · rw [c, upd_same] at z
    rw [c]
    cases z
    exact exo_ok there
  · rw [upd_ne c] at z
    by_cases c2 : b = dx
    · rw [c2, upd_same] at z
      rw [c2]
      cases z
      exact exd_ok ns (relO_put (fs := []) ry fun _ => trivial)
    · rw [upd_ne c2] at z
      refine (I.hok b o z).stay (fun b2 v hb2 z2 => kept b2 v ?_ z2) (fun b2 z2 => same z2 (at_ne e z2 exo_own)) (fun b2 xs z2 => same z2 (at_ne e z2 exo_tup))
      rcases hb2 with rfl | hb2
      · exact c
      · exact at_ne e hb2 exo_own
/-- self.f = e, the first store into such an exception -/
def tKeep (K : PySem.W.Frag) (newId : String) (bm : List Value) (f : Str) (to te : TE) : TS := fun D σ H => te σ H fun y H1 => to σ H1 fun x H2 => ∃ a C : Addr, x = .ref a ∧ Oex K C newId bm ∧ PySem.W.findIn K (.ref C) f = some none ∧
  H2 a = some (exo a C none) ∧ ∀ dx, H2 dx = none → dx ≠ a → D.nx σ (upd (upd H2 dx (exd dx [(f, y)])) a (exo a C (some dx)))
theorem ps_keep {o e : Expr} {to te : TE} {p' pos : Pos} (SF : StoreFacts B bm "object.__setattr__" "object") (ho : PE X o to) (he : PE X e te) (hs : swapsWith e (some (.Attribute o f p')) pos.line X.env = pure false := by rfl) :
    PS X (.Assign [.Attribute o f p'] e pos) (tKeep X.K newId bm f to te) := by
  constructor
  intro pins s σ H D I h
  refine plainObj_wpAny_Assign_Attribute (thn (he.run pins s σ H _ I h) ?_) hs
  rintro v s1 ⟨y, H1, I1, r1, q1⟩
  refine thn (ho.run pins s1 σ H1 _ I1 q1) ?_
  rintro w' s2 ⟨x, H2, I2, r2, a, C, rfl, T, no, ea, q⟩
  cases (show w' = Value.ref a from r2)
  exact keep_first SF T I2 ea no r1 fun dx s' n ne J => ⟨σ, _, J, q dx n ne⟩
/-- C(e, ..), C's own __init__ keeping sp -/
theorem pmk_keep {CX : CXT} {x : Str} {fI : Addr} {k : Nat} {fd : FuncData} {ps : List Str} {sp : Sp} {ds : List Value} {dvs : List V} {e : Expr} {es : List Expr} {ta : TA} {p pos : Pos} {initId : String} (F : ExcBaseFacts B newId initId bm)
    (T : Oex X.K C newId bm) (iC : PySem.W.findIn X.K (.ref C) "__init__" = some (some (.ref fI))) (tI : PySem.W.typeIn X.K (.ref fI) = some (.type "function")) (F1 : FnOk X.prog X.w X.K X.mg X.base CX k fI fd ps sp) (hr : Room (k + 1) X.A)
    (hb : Binds X.K fd ps ds) (hd : Vals dvs ds) (hx : Passes CX X (fun _ _ _ => False)) (hg : Gl X x) (hm : X.mg x = some (.ref C)) (ha : PA X (e :: es) ta) (hdb : (x == ("__debug__" : Str)) = false := by decide)
    (he : starEach (e :: es) X.env = (false, eval e X.env) :: starEach es X.env := by rfl) (hpl : (backTo pos (starEach es X.env)).any (·.1) = false := by rfl) : PMk X (.Call (.Name x p) (e :: es) [] pos) (tMkO C sp dvs ta) := by
  intro pins s σ H Q I h
  obtain ⟨nm, q, N, bs, sn, sub, ab, col, dd, k0, k1, k2, k3, k5, hC⟩ := T.cls
  apply wpAny_Call_Name_kw
  refine ld_glob I hg hm ?_ hdb
  refine PySem.W.callWith_K (h₀ := X.base) I.ok.mod.kin T.kC (thn (ha.run pos pins s σ H _ I h) ?_) he hpl
  rintro us s1 ⟨vs, H1, I1, r1, few, q1⟩
  refine ⟨I1.kIn, ?_⟩
  show wpAny _ _ (call (.ref C) us) _ _ _
  obtain ⟨hp, g, dr, tk, os⟩ := s1
  have le : hp.objs.size ≤ hp.objs.size + 1 := Nat.le_succ _
  have asked := q1 (hp.objs.size + 1) (I1.hok.fresh le)
  let hp2 : Heap := (hp.push (PySem.W.kdv_tup us)).push (PySem.HandSPX.excO C hp.objs.size)
  have kept : ∀ b o, hp.get? b = some o → hp2.get? b = some o := fun b o z => Heap.get?_push_of_some _ (Heap.get?_push_of_some _ z)
  have new : hp2.get? (hp.objs.size + 1) = some (PySem.HandSPX.excO C hp.objs.size) := by heap_get
  have I2 : Inv X pins σ (upd H1 (hp.objs.size + 1) (exo (hp.objs.size + 1) C none)) ⟨hp2, g, dr, tk, os⟩ := I1.laid (t' := tk) (a := hp.objs.size + 1) (o := exo (hp.objs.size + 1) C none) (h' := hp2) kept le (exo_ok new)
  have r2 : Vals (V.ref (hp.objs.size + 1) :: (vs ++ dvs)) (Value.ref (hp.objs.size + 1) :: (us ++ ds)) := .cons rfl (r1.append hd)
  have n : (Value.ref (hp.objs.size + 1) :: us ++ ds).length = ps.length := by
    have z := r2.length
    rw [F1.len _ _ _ _ asked] at z
    exact z.symm
  have small : us.length ≤ sizeLine := by
    rw [← Paired.length r1]
    exact Nat.le_of_lt (small1000 few)
  have run := F1.run _ X.stack _ _ ⟨Value.ref (hp.objs.size + 1) :: us, []⟩ (Value.ref (hp.objs.size + 1) :: (us ++ ds)) _ _ (fun _ _ _ => False) (hr.make C us []) (I2.env0.make C us []) (hb _ (Value.ref (hp.objs.size + 1) :: us) I2.kIn n) r2 asked
  refine wpAny_call (PySem.HandSPX.call_own F (fun _ => rfl) (I1.kIn _ _ hC) (PySem.W.looks_findIn I1.kIn iC) (fun self => PySem.W.bind_fn I1.kIn self tI) small (codeAny_mono run ?_))
  intro r s' z
  match r, z with
  | .error er, z => exact hx pins σ _ _ er s' I2 z
  | .ok .next, z => exact z.elim
  | .ok .brk, z => exact z.elim
  | .ok .cont, z => exact z.elim
  | .ok (.ret v'), z =>
    obtain ⟨v, H2, os2, bare2, un2, hok2, rv, rfl, d, fs, ea, ed, free, q2⟩ := z
    obtain ⟨h2, g2, d2, t2, os'⟩ := s'
    exact ⟨rv, mk_end (raises_own T.exC T.tyC) I1 le kept un2 hok2 os2 bare2 ea ed free q2⟩
end

/-! ### isinstance of the caught error and a built-in class above its own -/
theorem isinstance_own {prog : Program} {w : World} {A : Around} {E : Value → Shared → Prop} {s : Shared} {K : PySem.W.Frag} {x D : Addr} {o : Obj} {T : String} {Q : Value → Shared → Prop} (X : K.In s.heap) (hx : s.heap.get? x = some o) (hc : o.cls = .ref D)
    (ty : typeOf (.type T) = pure (.type "type")) (sub : PySem.W.subIn K (.ref D) (.type T) = some true) (h : Q (.bool true) s) : wpAny (model prog w) A (call (.builtin "isinstance") [.ref x, .type T]) Q E s := by
  apply call_isinstance_of
  · unfold Builtin.«isinstance.nested»
    have L : PySem.W.Looks (model prog w) s.heap (typeOf (.ref x)) (.ref D) := hc ▸ (PySem.W.Looks.ld hx).andThen .now
    refine wpAny_bind (L.here ?_)
    show wpAny _ _ (if (Value.ref D == Value.type T) = true then _ else _) _ _ s
    rw [if_neg (show ¬ ((Value.ref D == Value.type T) = true) from Bool.false_ne_true)]
    refine wpAny_bind (m := typeOf (.type T))
      (wpAny_of_eq ty ?_)
    show wpAny _ _ (if (Value.type "type" == Value.type "type") = true then _ else _) _ _ s
    rw [if_pos (by decide)]
    refine wpAny_bind (wpAny_bind (m := isType (.type T))
      (wpAny_pure (a := true) ?_))
    have L2 : PySem.W.Looks (model prog w) s.heap (isInstance (.ref x) (.type T)) true := L.andThen (PySem.W.looks_subIn X sub)
    refine wpAny_bind (L2.here ?_)
    exact wpAny_pure (wpAny_pure h)
  · intro z
    cases z
def rIsUp (a : Addr) (cls : Value) (K : PySem.W.Frag) : List V → Hp → VK → Prop := fun xs H Q => ∃ (D : Addr) (T : String), xs = [.ref a, .ty T] ∧ cls = .ref D ∧ typeOf (.type T) = pure (.type "type") ∧ PySem.W.subIn K (.ref D) (.type T) = some true ∧ Q (.bl true) H
theorem call_isUp {X : Cx} {a : Addr} {cls : Value} {d : Option Addr} {oe : Obj} {pn : List (Addr × Obj)} (hz : Zc cls d oe) : CallR (X.suite a ((a, oe) :: pn)) (.builtin "isinstance") (rIsUp a cls X.K) := by
  intro pins s σ H xs us Q I r h
  obtain ⟨D, T, rfl, rfl, ty, sub, q⟩ := h
  obtain ⟨u1, u2, rfl, r1, r2⟩ := vals2 r
  cases (show u1 = Value.ref a from r1)
  cases (show u2 = Value.type T from r2)
  obtain ⟨there, _⟩ := I.pin (a, oe) (List.mem_append.mpr (.inl (List.mem_cons_self ..)))
  exact isinstance_own I.kIn there hz.1 ty sub ⟨.bl true, H, I, rfl, q⟩
end Bp
set_option Elab.async false
set_option linter.all false
set_option maxRecDepth 100000
set_option maxHeartbeats 1000000
/-! The law's own hand: what it draws. -/
namespace K23
open PySem PySem.Spec PyProof.Rows L2 Bp
section
variable {P : Program} {w : World} {K : PySem.W.Frag} {mg : Str → Option Value} {base : Heap}
/-! ### the feed -/
theorem scFeed : FnScope ["_law_script", "_law_cell"] ["_law_script"] (defScope s_law_feed) := ⟨rfl, rfl, rfl, by decide +kernel, rfl, by decide +kernel, by decide +kernel⟩
def spFeed (K : PySem.W.Frag) : Sp := fun vs H Q _ => ∃ (a : Addr) (ns : List Int), vs = [.ref a] ∧ SqL K H a (ns.map V.int) ∧ ns.length ≤ 1000 ∧ ∀ H' (g : Fed), H g.f = none → FeedAt K H' g 0 → Same H H' → Q (.ref g.f) H'
theorem ok_feed {f : Addr} {fd : FuncData} {k : Nat} (F : Fun K "_law_feed" "_law_feed" s_law_feed f fd) : FnOk P w K mg base CX0 (k + 1) f fd ["_law_script"] (spFeed K) := by
  refine F.ok scFeed (fun vs H Q E h => ?_) (fun cdv A outer s H vs Q E hr h => ?_)
  · obtain ⟨a, ns, rfl, _⟩ := h
    rfl
  · obtain ⟨a, ns, rfl, hS, few, q⟩ := h
    refine ⟨_, pss_one (ps_ret (pe_disp (pps_cons pe_str (pe_lc (own := [("_law_cell", 1)]) (g := gName 1) (tt := tYes) rfl scFeed.nd (pi_list (pe_slice sl_list (pv 0) po_none (po_some pe_int))) (blkOk_by (own := [("_law_cell", 1)]) (N := ["_law_script", "_law_cell"]) (sc := defScope s_law_feed) (by decide +kernel))
        (fun _ _ _ _ _ => pg_name (i := 1) scFeed.nd rfl (Or.inl rfl)) (fun _ _ _ _ _ => pts_nil) (fun _ _ _ _ _ => pv 1))
      (pps_cons pe_str pe_int (pps_cons pe_str pe_int pps_nil))) (by rfl) (by rfl) (fun z => by cases z) (by decide))), ?_⟩
    intro f nf
    have s1 : Same H (upd H f (.dK [])) := same_new nf
    obtain ⟨ms, em, short⟩ : ∃ ms : List Int, cutV (ns.map V.int) none (some 63) = ms.map V.int ∧ ms.length ≤ 1000 := by
      refine ⟨(ns.drop (HT.sIx (ns.map V.int).length 0 none)).take (HT.sIx (ns.map V.int).length (ns.map V.int).length (some 63) - HT.sIx (ns.map V.int).length 0 none), ?_, ?_⟩
      · unfold cutV
        rw [List.map_take, List.map_drop]
      · rw [List.length_take, List.length_drop]
        omega
    refine ⟨.ref a, rfl, 63, rfl, a, ns.map V.int, rfl, s1.seq hS, fun c nc => ?_⟩
    rw [em]
    have s2 : Same (upd H f (.dK [])) (upd (upd H f (.dK [])) c (.lst (ms.map V.int))) := same_new nc
    refine ⟨c, rfl, ⟨_, SqL.of upd_same⟩, fun D nD => ?_⟩
    refine lc_list (xs := ms.map V.int) (fun i H' => Same (upd (upd H f (.dK [])) c (.lst (ms.map V.int))) H' ∧ H' D = some (.lst ((ms.take i).map V.int))) ⟨same_new nD, upd_same⟩ (fun i H' _ z => SqL.of (z.1 _ _ upd_same)) ?_ ?_
    · rintro i x H1 hx ⟨sm, hD⟩
      obtain ⟨z, hz, rfl⟩ : ∃ z, ms[i]? = some z ∧ x = V.int z := by
        rw [List.getElem?_map] at hx
        cases e : ms[i]? with
        | none =>
          rw [e] at hx
          cases hx
        | some z =>
          rw [e] at hx
          exact ⟨z, rfl, (Option.some.inj hx).symm⟩
      refine ⟨rfl, yes_kept ?_⟩
      refine ⟨.int z, rfl, _, hD, ?_, ?_, ?_⟩
      · rw [List.length_map, List.length_take]
        exact small1000 (by omega)
      · exact fun b o e => by
          rw [upd_ne (ne_of_none e nD)]
          exact sm b o e
      · rw [upd_same, List.take_add_one, hz, List.map_append]
        rfl
    · rintro H1 ⟨sm, hD⟩
      rw [List.length_map, List.take_length] at hD
      have hf : H1 f = some (.dK []) := sm _ _ (s2 _ _ upd_same)
      refine ⟨hf, feedKvs D 0 0, rfl, (by show 3 ≤ 15; decide), ?_⟩
      rw [feed_made]
      refine q _ ⟨f, D, ms⟩ nf ⟨0, 0, upd_same, ?_, Int.le_refl _, Int.le_refl _, Int.le_refl _⟩ ?_
      · have ne : D ≠ f := ne_of hD hf (by intro z; cases z)
        exact SqL.of (by rw [upd_ne ne]; exact hD)
      · exact fun b o e => by
          rw [upd_ne (ne_of_none e nf)]
          exact sm _ _ (s2 _ _ (s1 _ _ e))
/-! ### a draw -/
theorem scDraw : FnScope ["_law_feed_here", "_law_many", "_law_digit", "_law_at", "_law_cell", "_law_mixed"] ["_law_feed_here", "_law_many"] (defScope s_law_draw) := ⟨rfl, rfl, rfl, by decide +kernel, rfl, by decide +kernel, by decide +kernel⟩
def spDraw (K : PySem.W.Frag) : Sp := fun vs H Q _ => ∃ (f : Fed) (m : Int) (n : Nat), vs = [.ref f.f, .int m] ∧ FeedAt K H f n ∧ n ≤ 2 ^ 40 ∧ 0 < m ∧ m.natAbs < 2 ^ 300 ∧ ∀ d H', 0 ≤ d → d < m → FeedAt K H' f (n + 1) → Kept f.f H H' → Q (.int d) H'
theorem abs_nn {z : Int} : 0 ≤ (if z < 0 then -z else z) := by
  split <;> omega
theorem mid {z : Int} (h0 : 0 ≤ z) (h : z ≤ 2 ^ 63) : CMul z z := .inl ⟨by omega, by omega⟩
theorem ok_draw {f : Addr} {fd : FuncData} {k : Nat} (F : Fun K "_law_draw" "_law_draw" s_law_draw f fd) (ml : mg "len" = none) (ma : mg "abs" = none) : FnOk P w K mg base CX0 (k + 1) f fd ["_law_feed_here", "_law_many"] (spDraw K) := by
  refine F.ok scDraw (fun vs H Q E h => ?_) (fun cdv A outer s H vs Q E hr h => ?_)
  · obtain ⟨a, m, n, rfl, _⟩ := h
    rfl
  · obtain ⟨⟨a, c, ns⟩, m, n, rfl, fe, hn, m0, mb, q⟩ := h
    have hu := hu_of hr
    have hu64 : A.units + 3 + 64 < cLine := hr.units
    obtain ⟨at_, left, ef, sc, a0, an, l0⟩ := fe
    have small : ∀ z : Int, CDivW z m := fun z => wide_div m0 mb (by decide) (by decide)
    have at40 : at_ ≤ 2 ^ 40 := by omega
    have q2 : ∀ (z l : Int) (H' : Hp), 0 ≤ l → Kept a H H' → H' a = some (.dK (feedKvs c (at_ + 1) l)) → Q (.int (z % m)) H' := fun z l H' h0 kp e =>
      q _ _ (Int.emod_nonneg _ (by omega)) (Int.emod_lt_of_pos _ m0) ⟨at_ + 1, l, e, kp.seq ef sc, by omega, (by show at_ + 1 ≤ ((n + 1 : Nat) : Int); omega), h0⟩ kp
    -- what is done with the cell
    obtain ⟨tt, ht, pt⟩ : ∃ t, PSs (cxOf CX0 P w K mg base ["_law_feed_here", "_law_many", "_law_digit", "_law_at", "_law_cell", "_law_mixed"] "_law_draw" (defScope s_law_draw) f cdv A outer s H E).nox ((defBody s_law_draw).drop 5) t ∧
        ∀ (cell : Int) (H1 : Hp), Kept a H H1 → H1 a = some (.dK (feedKvs c (at_ + 1) left)) → t { nx := fun _ H' => Q .non H', rt := Q } [some (.ref a), some (.int m), none, some (.int at_), some (.int cell), none] H1 := by
      refine ⟨_, pss_cons (ps_if (PW.pt (pw_and (pt_cmpR op_lt (pv 3) (pe_callB call_len_seq (by rfl) ml PySem.boot_len (pa_cons (pe_dget hu (pv 0) pe_str (fun _ _ => rfl)) pa_nil)) (nomark _))
            (pw_and1 (pt_cmpR op_ge (pe_callB call_abs (by rfl) ma (by decide +kernel) (pa_cons (pv 4) pa_nil)) (pe_op op_pow pe_int pe_int) (nomark _)))))
        (pss_cons (ps_dput hu (pv 0) pe_str (pe_op op_fdivW (pe_op op_sub (pe_callB call_abs (by rfl) ma (by decide +kernel) (pa_cons (pv 4) pa_nil)) (pe_op op_pow pe_int pe_int)) (pv 1)) rfl)
        (pss_one (ps_ret (pe_op op_mod (pe_op op_sub (pe_callB call_abs (by rfl) ma (by decide +kernel) (pa_cons (pv 4) pa_nil)) (pe_op op_pow pe_int pe_int)) (pv 1))))) pss_nil)
      (pss_cons (ps_set (i := 5) scDraw.nd rfl (.inl rfl) (pe_op op_mod (pe_op op_add (pe_op op_mul (pv 4) pe_int) (pe_op op_mul pe_int (pe_op op_add (pv 3) pe_int))) pe_int))
      (pss_cons (ps_set (i := 5) scDraw.nd rfl (.inl rfl) (pe_op op_mod (pe_op op_mul (pv 5) (pe_op op_add (pv 5) pe_int)) pe_int))
      (pss_one (ps_ret (pe_op op_mod (pe_op op_fdivW (pv 5) pe_int) (pv 1)))))), ?_⟩
      intro cell H1 kp e1
      have s1 : SqL K H1 c (ns.map V.int) := kp.seq ef sc
      have cp : CPow 10 18 := ⟨by decide, by decide, by decide⟩
      have last : ∀ (z : Int) (H' : Hp), Kept a H H' → H' a = some (.dK (feedKvs c (at_ + 1) left)) → Q (.int (z % m)) H' := fun z H' kp e => q2 z left H' l0 kp e
      have big : (0 : Int) < 18446744073709551557 := by decide
      have m1 : ∀ z : Int, CMul z 6364136223846793005 := fun z => .inr ⟨by decide, by decide⟩
      have m2 : ∀ z : Int, CMul 1442695040888963407 z := fun z => .inl ⟨by decide, by decide⟩
      have m3 : ∀ z y : Int, CMul (z % 18446744073709551557) y := fun z y => .inl ⟨by omega, by omega⟩
      have d1 : ∀ z : Int, CDivW z 4294967311 := fun z => wide_div (by decide) (b := 40) (by decide) (by decide) (by decide)
      refine ⟨.int at_, rfl, .ref a, rfl, a, _, rfl, get_cells e1, c, _, rfl, .inl s1, _, _, rfl, rfl, _, rfl, ?_⟩
      refine ite2 (fun c1 => ?_) (fun c1 => ?_)
      · refine ⟨.int cell, rfl, cell, rfl, 10, 18, rfl, rfl, cp, _, _, rfl, rfl, _, rfl, ?_⟩
        refine ite2 (fun c2 => ?_) (fun c2 => ?_)
        · refine ⟨.int cell, rfl, cell, rfl, 10, 18, rfl, rfl, cp, _, _, rfl, rfl, .int m, rfl, _, _, rfl, rfl, small _, .ref a, rfl, a, _, rfl, put_left e1, ?_⟩
          refine ⟨.int cell, rfl, cell, rfl, 10, 18, rfl, rfl, cp, _, _, rfl, rfl, .int m, rfl, _, _, rfl, rfl, m0, ?_⟩
          refine q2 _ _ _ (Int.ediv_nonneg ?_ (by omega)) (kp.trans (Kept.put _)) upd_same
          have := of_decide_eq_true c2
          omega
        · refine ⟨.int cell, rfl, _, _, rfl, rfl, m1 _, .int at_, rfl, _, _, rfl, rfl, _, _, rfl, rfl, m2 _, _, _, rfl, rfl, _, _, rfl, rfl, big, ?_⟩
          refine ⟨_, rfl, _, rfl, _, _, rfl, rfl, _, _, rfl, rfl, m3 _ _, _, _, rfl, rfl, big, ?_⟩
          exact ⟨_, rfl, _, _, rfl, rfl, d1 _, .int m, rfl, _, _, rfl, rfl, m0, last _ H1 kp e1⟩
      · refine ⟨.int cell, rfl, _, _, rfl, rfl, m1 _, .int at_, rfl, _, _, rfl, rfl, _, _, rfl, rfl, m2 _, _, _, rfl, rfl, _, _, rfl, rfl, big, ?_⟩
        refine ⟨_, rfl, _, rfl, _, _, rfl, rfl, _, _, rfl, rfl, m3 _ _, _, _, rfl, rfl, big, ?_⟩
        exact ⟨_, rfl, _, _, rfl, rfl, d1 _, .int m, rfl, _, _, rfl, rfl, m0, last _ H1 kp e1⟩
    refine ⟨_, pss_cons (ps_if (pt_cmpR op_gt (pe_dget hu (pv 0) pe_str (fun _ _ => rfl)) pe_int (nomark _))
        (pss_cons (ps_set (i := 2) scDraw.nd rfl (.inl rfl) (pe_op op_mod (pe_dget hu (pv 0) pe_str (fun _ _ => rfl)) (pv 1)))
        (pss_cons (ps_dput hu (pv 0) pe_str (pe_op op_fdivW (pe_dget hu (pv 0) pe_str (fun _ _ => rfl)) (pv 1)) rfl)
        (pss_one (ps_ret (pv 2))))) pss_nil)
      (pss_cons (ps_set (i := 3) scDraw.nd rfl (.inl rfl) (pe_dget hu (pv 0) pe_str (fun _ _ => rfl)))
      (pss_cons (ps_dput hu (pv 0) pe_str (pe_op op_add (pv 3) pe_int) rfl)
      (pss_cons (ps_set (i := 4) scDraw.nd rfl (.inl rfl) (pe_op op_add (pe_op op_add (pe_op op_mul (pe_op op_mul pe_int (pv 3)) (pv 3)) (pe_op op_mul pe_int (pv 3))) pe_int))
      (pss_cons (ps_if (pt_cmpR (op_neD hu64) (pe_dget hu (pv 0) pe_str (fun _ _ => rfl)) (pe_lst pa_nil) (nomark _))
        (pss_one (ps_set (i := 4) scDraw.nd rfl (.inl rfl) (pe_op op_add (pv 4) (pe_ix ix_list (pe_dget hu (pv 0) pe_str (fun _ _ => rfl)) (pe_op op_mod (pv 3) (pe_callB call_len_seq (by rfl) ml PySem.boot_len (pa_cons (pe_dget hu (pv 0) pe_str (fun _ _ => rfl)) pa_nil))) (fun _ _ => rfl))))) pss_nil) ht)))), ?_⟩
    refine ⟨.ref a, rfl, a, _, rfl, get_left ef, _, _, rfl, rfl, _, rfl, ?_⟩
    refine ite2 (fun c0 => ?_) (fun c0 => ?_)
    · refine ⟨.ref a, rfl, a, _, rfl, get_left ef, .int m, rfl, left, m, rfl, rfl, m0, ?_⟩
      refine ⟨.ref a, rfl, a, _, rfl, get_left ef, .int m, rfl, left, m, rfl, rfl, small _, .ref a, rfl, a, _, rfl, put_left ef, ?_⟩
      refine ⟨.int (left % m), rfl, ?_⟩
      exact q _ _ (Int.emod_nonneg _ (by omega)) (Int.emod_lt_of_pos _ m0) ⟨at_, left / m, upd_same, (Kept.put _).seq ef sc, a0, (by show at_ ≤ ((n + 1 : Nat) : Int); omega), Int.ediv_nonneg l0 (Int.le_of_lt m0)⟩ (Kept.put _)
    · refine ⟨.ref a, rfl, a, _, rfl, get_at ef, .int at_, rfl, at_, 1, rfl, rfl, .ref a, rfl, a, _, rfl, put_at ef, ?_⟩
      have cm : ∀ z : Int, CMul z at_ := fun z => .inr ⟨by omega, by omega⟩
      refine ⟨.int at_, rfl, 53, at_, rfl, rfl, cm _, .int at_, rfl, _, at_, rfl, rfl, cm _, .int at_, rfl, 17, at_, rfl, rfl, cm _, _, _, rfl, rfl, _, 5, rfl, rfl, ?_⟩
      have ef1 : (upd H a (.dK (feedKvs c (at_ + 1) left))) a = some (.dK (feedKvs c (at_ + 1) left)) := upd_same
      have kp1 : Kept a H (upd H a (.dK (feedKvs c (at_ + 1) left))) := Kept.put _
      refine ⟨.ref a, rfl, a, _, rfl, get_cells ef1, (by show 0 ≤ sizeLine; decide), fun l nl => ?_⟩
      have kp2 : Kept a H (upd (upd H a (.dK (feedKvs c (at_ + 1) left))) l (.lst [])) := kp1.trans (Kept.of (same_new nl))
      have ef2 : (upd (upd H a (.dK (feedKvs c (at_ + 1) left))) l (.lst [])) a = some (.dK (feedKvs c (at_ + 1) left)) := same_new nl _ _ ef1
      have sc2 := kp2.seq ef sc
      refine ⟨_, _, dp_ints sc2, dp_ints (ns := []) (SqL.of upd_same), shaped_ints _, shaped_ints [], _, rfl, ?_⟩
      show if (!PyData.eqv (.list (ns.map PyData.int)) (.list [])) = true then _ else _
      rw [eqv_nil]
      by_cases e : ns = []
      · refine noOf (by rw [decide_eq_true e]; rfl) ?_
        exact pt _ _ kp2 ef2
      · refine yesOf (by rw [decide_eq_false e]; rfl) ?_
        have lp : 0 < ns.length := List.length_pos_iff.mpr e
        refine ⟨_, rfl, .ref a, rfl, a, _, rfl, get_cells ef2, .int at_, rfl, .ref a, rfl, a, _, rfl, get_cells ef2, c, _, rfl, .inl sc2, at_, _, rfl, rfl, (by show (0 : Int) < ((ns.map V.int).length : Int); rw [List.length_map]; omega), ?_⟩
        obtain ⟨j, hj⟩ := Int.eq_ofNat_of_zero_le (Int.emod_nonneg at_ (b := (ns.map V.int).length) (by rw [List.length_map]; omega))
        have jl : j < ns.length := by
          have := Int.emod_lt_of_pos at_ (b := (ns.map V.int).length) (by rw [List.length_map]; omega)
          rw [List.length_map] at this hj
          omega
        refine ⟨c, _, at_ % ((ns.map V.int).length : Int), .int ns[j], rfl, rfl, sc2, by rw [hj]; exact atI_nat (by rw [List.getElem?_map, List.getElem?_eq_getElem jl]; rfl), _, _, rfl, rfl, ?_⟩
        exact pt _ _ kp2 ef2
end
end K23
set_option Elab.async false
set_option linter.all false
set_option maxRecDepth 100000
set_option maxHeartbeats 1000000
/-! The law's own hand: what it picks; signs and maps of them. -/
set_option exponentiation.threshold 400
namespace K23
open PySem PySem.Spec PyProof.Rows L2 Bp
section
variable {P : Program} {w : World} {K : PySem.W.Frag} {mg : Str → Option Value} {base : Heap}
theorem ix_either {X : Cx} : IxR X (fun x y H Q => rIxL X.K x y H Q ∨ rIxS x y H Q) := by
  intro value slice pins s σ H x y v u Q I rx ry h hs
  rcases h with h | h
  · exact ix_list value slice pins s σ H x y v u Q I rx ry h hs
  · exact ix_str value slice pins s σ H x y v u Q I rx ry h hs
/-! ### a pick -/
abbrev Drw (P : Program) (w : World) (K : PySem.W.Frag) (mg : Str → Option Value) (base : Heap) (k : Nat) (f : Addr) (fd : FuncData) : Prop := FnOk P w K mg base CX0 k f fd ["_law_feed_here", "_law_many"] (spDraw K)
theorem scPick : FnScope ["_law_feed_here", "_law_some"] ["_law_feed_here", "_law_some"] (defScope s_law_pick) := ⟨rfl, rfl, rfl, by decide +kernel, rfl, by decide +kernel, by decide +kernel⟩
def spPick (K : PySem.W.Frag) : Sp := fun vs H Q _ => ∃ (f : Fed) (v : V) (n : Nat), vs = [.ref f.f, v] ∧ FeedAt K H f n ∧ n ≤ 2 ^ 40 ∧
  ((∃ m : List Nat, v = .str (tx m) ∧ 0 < m.length ∧ m.length ≤ 1000 ∧ ∀ c H', c ∈ m → FeedAt K H' f (n + 1) → Kept f.f H H' → Q (.str (tx [c])) H') ∨
   (∃ (l : Addr) (xs : List V), v = .ref l ∧ SqL K H l xs ∧ 0 < xs.length ∧ xs.length ≤ 1000 ∧ ∀ x H', x ∈ xs → FeedAt K H' f (n + 1) → Kept f.f H H' → Q x H'))
theorem ok_pick {f fD : Addr} {fd fdD : FuncData} {k : Nat} (F : Fun K "_law_pick" "_law_pick" s_law_pick f fd) (FD : Fun K "_law_draw" "_law_draw" s_law_draw fD fdD) (bD : Binds K fdD ["_law_feed_here", "_law_many"] []) (gD : mg "_law_draw" = some (.ref fD))
    (GD : Drw P w K mg base k fD fdD) (ml : mg "len" = none) : FnOk P w K mg base CX0 (k + 1) f fd ["_law_feed_here", "_law_some"] (spPick K) := by
  refine F.ok scPick (fun vs H Q E h => ?_) (fun cdv A outer s H vs Q E hr h => ?_)
  · obtain ⟨a, v, n, rfl, _⟩ := h
    rfl
  · obtain ⟨a, v, n, rfl, fe, hn, h⟩ := h
    refine ⟨_, pss_one (ps_ret (pe_ix ix_either (pv 1) (pe_call GD hr rfl gD FD.kp bD .nil pass0 (pa_cons (pv 0) (pa_cons (pe_callB call_len (by rfl) ml PySem.boot_len (pa_cons (pv 1) pa_nil)) pa_nil))) (fun _ _ => rfl))), ?_⟩
    rcases h with ⟨m, rfl, m0, m1, q⟩ | ⟨l, xs, rfl, sl, x0, x1, q⟩
    · refine ⟨.str (tx m), rfl, .ref a.f, rfl, .str (tx m), rfl, .str (tx m), m.length, rfl, ⟨?_, (tx_len m).symm⟩, a, _, n, rfl, fe, hn, by omega, ?_, ?_⟩
      · rw [tx_len]
        exact Nat.le_of_lt (small1000 m1)
      · refine Nat.lt_of_lt_of_le (show (m.length : Int).natAbs < 2 ^ 10 by omega) (Nat.pow_le_pow_right (by decide) (by decide))
      · intro d H' d0 dm fe' kp
        obtain ⟨j, rfl⟩ := Int.eq_ofNat_of_zero_le d0
        have jl : j < m.length := by omega
        refine .inr ⟨tx m, _, m[j], rfl, rfl, ?_, ?_, q _ _ (List.getElem_mem jl) fe' kp⟩
        · rw [tx_len]
          exact Nat.le_of_lt (small1000 m1)
        · rw [tx_list]
          exact atI_nat (List.getElem?_eq_getElem jl)
    · refine ⟨.ref l, rfl, .ref a.f, rfl, .ref l, rfl, .ref l, xs.length, rfl, .inl ⟨xs, sl, rfl⟩, a, _, n, rfl, fe, hn, by omega, ?_, ?_⟩
      · refine Nat.lt_of_lt_of_le (show (xs.length : Int).natAbs < 2 ^ 10 by omega) (Nat.pow_le_pow_right (by decide) (by decide))
      · intro d H' d0 dm fe' kp
        obtain ⟨j, rfl⟩ := Int.eq_ofNat_of_zero_le d0
        have jl : j < xs.length := by omega
        obtain ⟨kvs, ea⟩ := fe.dict
        exact .inl ⟨l, xs, _, xs[j], rfl, rfl, kp.seq ea sl, atI_nat (List.getElem?_eq_getElem jl), q _ _ (List.getElem_mem jl) fe' kp⟩
/-! ### signs -/
/-- letters from the first, by steps, around -/
def around (first step : Int) (many : Nat) : List Nat := (List.range many).map fun k => 97 + ((first + step * (k : Nat)) % 26).toNat
theorem around_nd {first step : Int} {many : Nat} (hs : step ∈ ([1, 3, 5, 7, 9, 11] : List Int)) (hm : many ≤ 4) : (around first step many).Nodup := by
  unfold around
  refine List.pairwise_map.mpr ?_
  refine List.Pairwise.imp_of_mem ?_ (List.nodup_range (n := many))
  intro i j hi hj ne e
  have h1 := List.mem_range.mp hi
  have h2 := List.mem_range.mp hj
  have e2 : (first + step * (i : Nat)) % 26 = (first + step * (j : Nat)) % 26 := by
    have a1 := Int.emod_nonneg (first + step * (i : Nat)) (b := 26) (by decide)
    have a2 := Int.emod_nonneg (first + step * (j : Nat)) (b := 26) (by decide)
    omega
  have st : step = 1 ∨ step = 3 ∨ step = 5 ∨ step = 7 ∨ step = 9 ∨ step = 11 := by simpa using hs
  rcases st with rfl | rfl | rfl | rfl | rfl | rfl <;> omega
theorem around_low (first step : Int) (many : Nat) : ∀ c ∈ around first step many, 97 ≤ c ∧ c ≤ 122 := by
  intro c hc
  obtain ⟨k, _, rfl⟩ := List.mem_map.mp hc
  have a1 := Int.emod_nonneg (first + step * (k : Nat)) (b := 26) (by decide)
  have a2 := Int.emod_lt_of_pos (first + step * (k : Nat)) (b := 26) (by decide)
  omega
theorem around_signs {first step : Int} {many : Nat} (hs : step ∈ ([1, 3, 5, 7, 9, 11] : List Int)) (lo : 2 ≤ many) (hm : many ≤ 4) {zs : List Nat} (p : zs.Perm (around first step many)) (srt : sortedS (ones zs) = true) : K33.Signs zs := by
  have nd : zs.Nodup := p.nodup_iff.mpr (around_nd hs hm)
  have len : zs.length = many := by
    rw [p.length_eq]
    unfold around
    rw [List.length_map, List.length_range]
  refine ⟨?_, by omega, by omega, fun c hc => around_low first step many c (p.mem_iff.mp hc)⟩
  refine List.Pairwise.imp₂ ?_ (K33.sorted_ones srt) nd
  intro a b h1 h2
  exact Nat.lt_of_le_of_ne h1 h2
theorem alphabet : ("abcdefghijklmnopqrstuvwxyz" : Str) = tx (List.range' 97 26) := by decide +kernel
theorem scSigns : FnScope ["_law_feed_here", "_law_many", "_law_letters", "_law_first", "_law_step", "_law_k"] ["_law_feed_here", "_law_many"] (defScope s_law_signs) := ⟨rfl, rfl, rfl, by decide +kernel, rfl, by decide +kernel, by decide +kernel⟩
abbrev Pck (P : Program) (w : World) (K : PySem.W.Frag) (mg : Str → Option Value) (base : Heap) (k : Nat) (f : Addr) (fd : FuncData) : Prop := FnOk P w K mg base CX0 k f fd ["_law_feed_here", "_law_some"] (spPick K)
def spSigns (K : PySem.W.Frag) : Sp := fun vs H Q _ => ∃ (f : Fed) (many n : Nat), vs = [.ref f.f, .int many] ∧ 2 ≤ many ∧ many ≤ 4 ∧ FeedAt K H f n ∧ n ≤ 2 ^ 30 ∧ ∀ s H', K33.Signs s → FeedAt K H' f (n + 2) → Kept f.f H H' → Q (.str (tx s)) H'
theorem ok_signs {f fD fP : Addr} {fd fdD fdP : FuncData} {k : Nat} (F : Fun K "_law_signs" "_law_signs" s_law_signs f fd) (FD : Fun K "_law_draw" "_law_draw" s_law_draw fD fdD) (bD : Binds K fdD ["_law_feed_here", "_law_many"] []) (gD : mg "_law_draw" = some (.ref fD))
    (GD : Drw P w K mg base k fD fdD) (FP : Fun K "_law_pick" "_law_pick" s_law_pick fP fdP) (bP : Binds K fdP ["_law_feed_here", "_law_some"] []) (gP : mg "_law_pick" = some (.ref fP)) (GP : Pck P w K mg base k fP fdP)
    (mr : mg "range" = none) (ms : mg "sorted" = none) : FnOk P w K mg base CX0 (k + 1) f fd ["_law_feed_here", "_law_many"] (spSigns K) := by
  refine F.ok scSigns (fun vs H Q E h => ?_) (fun cdv A outer s H vs Q E hr h => ?_)
  · obtain ⟨a, v, n, rfl, _⟩ := h
    rfl
  · obtain ⟨a, many, n, rfl, lo, hi, fe, hn, q⟩ := h
    refine ⟨_, pss_cons (ps_asg (pe_tup (pa_cons pe_str (pa_cons (pe_call GD hr rfl gD FD.kp bD .nil pass0 (pa_cons (pv 0) (pa_cons pe_int pa_nil)))
        (pa_cons (pe_call GP hr rfl gP FP.kp bP .nil pass0 (pa_cons (pv 0) (pa_cons (pe_lst (pa_cons pe_int (pa_cons pe_int (pa_cons pe_int (pa_cons pe_int (pa_cons pe_int (pa_cons pe_int pa_nil))))))) pa_nil))) pa_nil))))
        (pg_tup rfl (pgs_cons (pg_name (i := 2) scSigns.nd rfl (.inr rfl)) (pgs_cons (pg_name (i := 3) scSigns.nd rfl (.inr rfl)) (pgs_cons (pg_name (i := 4) scSigns.nd rfl (.inr rfl)) pgs_nil)))))
      (pss_one (ps_ret (pe_join pe_str (pe_callB cr_sortedS (by rfl) ms (by decide +kernel) (pa_cons (pe_lc (own := [("_law_k", 5)]) (g := gName 5) (tt := tYes) rfl scSigns.nd (pi_range1 (by rfl) mr (pa_cons (pv 1) pa_nil))
        (blkOk_by (own := [("_law_k", 5)]) (N := ["_law_feed_here", "_law_many", "_law_letters", "_law_first", "_law_step", "_law_k"]) (sc := defScope s_law_signs) (by decide +kernel))
        (fun _ _ _ _ _ => pg_name (i := 5) scSigns.nd rfl (Or.inl rfl)) (fun _ _ _ _ _ => pts_nil) (fun _ _ _ _ _ => pe_ix ix_str (pv 2) (pe_op op_mod (pe_op op_add (pv 3) (pe_op op_mul (pv 4) (pv 5))) pe_int) (fun _ _ => rfl))) pa_nil))))), ?_⟩
    refine ⟨.ref a.f, rfl, a, 26, n, rfl, fe, by omega, by decide, by decide, fun first H1 f0 f1 fe1 kp1 => ?_⟩
    refine ⟨.ref a.f, rfl, (by show 6 ≤ sizeLine; decide), fun l nl => ?_⟩
    refine ⟨a, .ref l, n + 1, rfl, fe1.same (same_new nl), by omega, .inr ⟨l, [1, 3, 5, 7, 9, 11].map V.int, rfl, SqL.of upd_same, by decide, by decide, fun x H2 hx fe2 kp2 => ?_⟩⟩
    obtain ⟨step, hst, rfl⟩ := List.mem_map.mp hx
    refine ⟨(by show 3 ≤ sizeLine; decide), fun t nt => ?_⟩
    refine ⟨t, _, rfl, SqT.of upd_same, rfl, _, _, rfl, _, _, rfl, _, _, rfl, rfl, ?_⟩
    have s3 : Same H2 (upd H2 t (.tup [.str "abcdefghijklmnopqrstuvwxyz", .int first, .int step])) := same_new nt
    have st0 : 0 ≤ step ∧ step ≤ 11 := by
      have st : step = 1 ∨ step = 3 ∨ step = 5 ∨ step = 7 ∨ step = 9 ∨ step = 11 := by simpa using hst
      omega
    refine ⟨⟨_, rfl⟩, .int many, rfl, many, rfl, by omega, by omega, fun D nD => ?_⟩
    have tn : (many : Int).toNat = many := Int.toNat_natCast _
    refine lc_tx (H := upd H2 t (.tup [.str "abcdefghijklmnopqrstuvwxyz", .int first, .int step])) (walk_range (lo := 0) (n := (many : Int).toNat)) (fun _ _ => trivial) (fun i => around first step i) rfl (fun i hi => ?_) nD ?_ ?_
    · unfold around
      rw [List.length_map, List.length_range]
      omega
    · rintro i x H4 H5 Qy Qn hi sm ⟨rfl, rfl⟩ qy _
      refine ⟨rfl, yes_kept ?_⟩
      obtain ⟨j, hj⟩ := Int.eq_ofNat_of_zero_le (Int.emod_nonneg (first + step * (0 + (i : Int))) (b := 26) (by decide))
      have jl : j < 26 := by
        have := Int.emod_lt_of_pos (first + step * (0 + (i : Int))) (b := 26) (by decide)
        omega
      refine ⟨.str "abcdefghijklmnopqrstuvwxyz", rfl, .int first, rfl, .int step, rfl, .int (0 + i), rfl, step, 0 + i, rfl, rfl, .inl ⟨by omega, by omega⟩, _, _, rfl, rfl, _, 26, rfl, rfl, (by show (0 : Int) < 26; decide), "abcdefghijklmnopqrstuvwxyz", _, 97 + j, rfl, rfl, by decide +kernel, ?_, qy _ _ (Same.refl _) ?_⟩
      · rw [alphabet, tx_list, hj]
        exact atI_nat (by rw [List.getElem?_range' jl, Nat.one_mul])
      · unfold around
        rw [List.range_succ, List.map_append]
        rw [Int.zero_add] at hj
        show _ ++ [97 + ((first + step * (i : Nat)) % 26).toNat] = _
        rw [hj]
        rfl
    · intro H4 sm hD
      rw [tn] at hD
      refine ⟨D, ones (around first step many), rfl, SqL.of hD, ?_, fun ys p perm srt np => ?_⟩
      · rw [ones_len]
        unfold around
        rw [List.length_map, List.length_range]
        omega
      · obtain ⟨zs, rfl, pz⟩ := K33.perm_ones perm
        have sg := around_signs hst lo hi pz srt
        refine ⟨tx [], p, ones zs, tx_nil ▸ rfl, rfl, .inl (SqL.of upd_same), ?_, ?_⟩
        · rw [ones_sum, ones_len, tx_len]
          have := sg.hi
          simp
          omega
        · show Q _ _
          rw [ones_join]
          have s5 : Same H2 (upd H4 p (.lst ((ones zs).map V.str))) := s3.trans (sm.trans (same_new np))
          exact q zs _ sg (fe2.same s5) ((kp1.trans (Kept.of (same_new nl))).trans (kp2.trans (Kept.of s5)))
end
end K23
set_option Elab.async false
set_option linter.all false
set_option maxRecDepth 100000
set_option maxHeartbeats 2000000
set_option exponentiation.threshold 400
/-! The law's own hand: names. -/
namespace K23
open PySem PySem.Spec PyProof.Rows L2 Bp
section
variable {P : Program} {w : World} {K : PySem.W.Frag} {mg : Str → Option Value} {base : Heap}
abbrev NsN : List Str := ["_law_feed_here", "_law_many", "_law_letters", "_law_found", "_law_stem", "_law_at", "_law_first", "_law_step", "_law_k", "_law_tail"]
theorem scNames : FnScope NsN ["_law_feed_here", "_law_many"] (defScope s_law_names) := ⟨rfl, rfl, rfl, by decide +kernel, rfl, by decide +kernel, by decide +kernel⟩
theorem Kept.new {H H1 : Hp} {f l : Addr} {o : HO} (h : Kept f H H1) (e : H l = none) : Kept f H (upd H1 l o) := fun b x n eb => by
  rw [upd_ne (ne_of_none eb e)]
  exact h b x n eb
theorem Kept.none {H H1 : Hp} {f l : Addr} (h : Kept f H H1) (ne : l ≠ f) (e : H1 l = none) : H l = none := by
  cases q : H l with
  | none => rfl
  | some o =>
    have := h _ _ ne q
    rw [e] at this
    cases this
/-- names, all unlike -/
structure NamesOk (many : Nat) (ns : List (List Nat)) : Prop where
  len : ns.length = many
  each : ∀ m ∈ ns, Nm m
  nd : ns.Nodup
def code (f st : Int) (i : Nat) : Nat := 97 + ((f + st * (i : Nat)) % 26).toNat
theorem code_low (f st : Int) (i : Nat) : 97 ≤ code f st i ∧ code f st i ≤ 122 := by
  unfold code
  have a1 := Int.emod_nonneg (f + st * (i : Nat)) (b := 26) (by decide)
  have a2 := Int.emod_lt_of_pos (f + st * (i : Nat)) (b := 26) (by decide)
  omega
theorem code_ne {f st : Int} {i j : Nat} (hs : st ∈ ([1, 3, 5, 7, 9, 11, 15, 17] : List Int)) (ij : i < j) (j6 : j < 6) : code f st i ≠ code f st j := by
  intro e
  unfold code at e
  have e2 : (f + st * (i : Nat)) % 26 = (f + st * (j : Nat)) % 26 := by
    have a1 := Int.emod_nonneg (f + st * (i : Nat)) (b := 26) (by decide)
    have a2 := Int.emod_nonneg (f + st * (j : Nat)) (b := 26) (by decide)
    omega
  have z : st = 1 ∨ st = 3 ∨ st = 5 ∨ st = 7 ∨ st = 9 ∨ st = 11 ∨ st = 15 ∨ st = 17 := by simpa using hs
  rcases z with rfl | rfl | rfl | rfl | rfl | rfl | rfl | rfl <;> omega
theorem cut_front (m : List Nat) (a : Nat) (h : a ≤ m.length) : cutS (tx m) none (some (a : Int)) = tx (m.take a) := by
  apply str_ext
  unfold cutS
  rw [tx_list, tx_len, tx_list, HT.sIx_nat, HT.sIx_none, List.drop_zero, Nat.sub_zero, Nat.min_eq_left h]
theorem cut_back (m : List Nat) (a : Nat) (h : a < m.length) : cutS (tx m) (some ((a : Int) + 1)) none = tx (m.drop (a + 1)) := by
  apply str_ext
  unfold cutS
  rw [tx_list, tx_len, tx_list, show ((a : Int) + 1) = ((a + 1 : Nat) : Int) by omega, HT.sIx_nat, HT.sIx_none, Nat.min_eq_left h]
  rw [← List.length_drop, List.take_length]
def sp_names (K : PySem.W.Frag) : Sp := fun vs H Q _ => ∃ (g : Fed) (many n : Nat), vs = [.ref g.f, .int many] ∧ many ≤ 6 ∧ FeedAt K H g n ∧ n ≤ 2 ^ 30 ∧ ∀ ns l H', NamesOk many ns → H l = none → H' l = some (.lst (txs ns)) → FeedAt K H' g (n + 20) → Kept g.f H H' → Q (.ref l) H'
theorem ok_names {f fD fP : Addr} {fd fdD fdP : FuncData} {k : Nat} (F : Fun K "_law_names" "_law_names" s_law_names f fd) (FD : Fun K "_law_draw" "_law_draw" s_law_draw fD fdD) (bD : Binds K fdD ["_law_feed_here", "_law_many"] []) (gD : mg "_law_draw" = some (.ref fD))
    (GD : Drw P w K mg base k fD fdD) (FP : Fun K "_law_pick" "_law_pick" s_law_pick fP fdP) (bP : Binds K fdP ["_law_feed_here", "_law_some"] []) (gP : mg "_law_pick" = some (.ref fP)) (GP : Pck P w K mg base k fP fdP)
    (B : Blt mg) : FnOk P w K mg base CX0 (k + 1) f fd ["_law_feed_here", "_law_many"] (sp_names K) := by
  refine F.ok scNames (fun vs H Q E h => ?_) (fun cdv A outer sh H vs Q E hr h => ?_)
  · obtain ⟨g, many, n, rfl, _⟩ := h
    rfl
  · obtain ⟨g, many, n, rfl, m6, fe, hn, q⟩ := h
    refine ⟨_, pss_cons (ps_asg (pe_tup (pa_cons pe_str (pa_cons (pe_lst pa_nil) pa_nil))) (pg_tup rfl (pgs_cons (pg_name (i := 2) scNames.nd rfl (.inr rfl)) (pgs_cons (pg_name (i := 3) scNames.nd rfl (.inl rfl)) pgs_nil))))
      (pss_cons (ps_set (i := 4) scNames.nd rfl (.inl rfl) (pe_join pe_str (pe_lc (own := [("_law_k", 8)]) (g := gName 8) (tt := tYes) rfl scNames.nd (pi_range1 (by rfl) B.rng (pa_cons (pe_op op_add pe_int (pe_call GD hr rfl gD FD.kp bD .nil pass0 (pa_cons (pv 0) (pa_cons pe_int pa_nil)))) pa_nil))
          (blkOk_by (own := [("_law_k", 8)]) (N := NsN) (sc := defScope s_law_names) (by decide +kernel)) (fun _ _ _ _ _ => pg_name (i := 8) scNames.nd rfl (Or.inl rfl)) (fun _ _ _ _ _ => pts_nil) (fun _ _ _ _ _ => pe_call GP hr rfl gP FP.kp bP .nil pass0 (pa_cons (pv 0) (pa_cons (pv 2) pa_nil))))))
      (pss_cons (ps_par3 (i := 5) (j := 6) (l := 7) rfl scNames.nd rfl rfl rfl (by decide) (by decide) (by decide) rfl rfl rfl (pa_cons (pe_call GD hr rfl gD FD.kp bD .nil pass0 (pa_cons (pv 0) (pa_cons (pe_callB call_len (by rfl) B.len PySem.boot_len (pa_cons (pv 4) pa_nil)) pa_nil))) (pa_cons (pe_call GD hr rfl gD FD.kp bD .nil pass0 (pa_cons (pv 0) (pa_cons pe_int pa_nil)))
          (pa_cons (pe_call GP hr rfl gP FP.kp bP .nil pass0 (pa_cons (pv 0) (pa_cons (pe_lst (pa_cons pe_int (pa_cons pe_int (pa_cons pe_int (pa_cons pe_int (pa_cons pe_int (pa_cons pe_int (pa_cons pe_int (pa_cons pe_int pa_nil))))))))) pa_nil))) pa_nil))) (by rfl))
      (pss_cons (ps_for PassesOwn.never rfl (pi_range1 (by rfl) B.rng (pa_cons (pv 1) pa_nil)) (pg_name (i := 8) scNames.nd rfl (Or.inl rfl))
        (pss_cons (ps_set (i := 9) scNames.nd rfl (.inl rfl) (pe_ifExp (pt_cmpR op_gt (pe_call GD hr rfl gD FD.kp bD .nil pass0 (pa_cons (pv 0) (pa_cons pe_int pa_nil))) pe_int (nomark _)) (pe_slice sl_str (pv 4) (po_some (pe_op op_add (pv 5) pe_int)) po_none) pe_str))
        (pss_one (ps_expr (pe_bm PySem.F.plainAttrs_list PySem.F.slot_list_append PySem.F.type_list_append mt_append (pv 3) (pa_cons (pe_op op_add_str (pe_op op_add_str (pe_slice sl_str (pv 4) po_none (po_some (pv 5))) (pe_ix ix_str (pv 2) (pe_op op_mod (pe_op op_add (pv 6) (pe_op op_mul (pv 7) (pv 8))) pe_int) (fun _ _ => rfl))) (pv 9)) pa_nil))))))
      (pss_one (ps_ret (pv 3)))))), ?_⟩
    have alph : (V.str "abcdefghijklmnopqrstuvwxyz") = .str (tx (List.range' 97 26)) := congrArg V.str alphabet
    refine ⟨(by show 0 ≤ sizeLine; decide), fun l nl => ⟨(by show 2 ≤ sizeLine; decide), fun t nt => ?_⟩⟩
    refine ⟨t, _, rfl, SqT.of upd_same, rfl, _, _, rfl, _, _, rfl, rfl, ?_⟩
    have lt : l ≠ t := ne_of_none upd_same nt
    generalize h1 : upd (upd H l (.lst [])) t (.tup [.str "abcdefghijklmnopqrstuvwxyz", .ref l]) = H1
    have s1 : Same H H1 := by
      rw [← h1]
      exact (same_new nl).trans (same_new nt)
    have hl1 : H1 l = some (.lst []) := by rw [← h1, upd_ne lt, upd_same]
    have lg : l ≠ g.f := fe.ne nl
    refine ⟨⟨_, rfl⟩, .ref g.f, rfl, g, 8, n, rfl, fe.same s1, by omega, by decide, by decide, fun d H2 d0 d1 fe2 kp2 => ?_⟩
    obtain ⟨e, rfl⟩ := Int.eq_ofNat_of_zero_le d0
    have e8 : e < 8 := by omega
    refine ⟨1, e, rfl, rfl, _, rfl, by omega, by omega, fun D nD => ?_⟩
    have tn : (1 + (e : Int)).toNat = 1 + e := by omega
    show ∃ W : Nat → Nat → Hp → Prop, _ ∧ _
    rw [tn]
    have Dg : D ≠ g.f := fe2.ne nD
    have hl2 := kp2 _ _ lg hl1
    have Dl : l ≠ D := ne_of_none hl2 nD
    refine lc_it (walk_range (lo := 0) (n := 1 + e)) (fun i H3 => ∃ m : List Nat, m.length = i ∧ Low m ∧ H3 D = some (.lst ((ones m).map V.str)) ∧ H3 l = some (.lst []) ∧ FeedAt K H3 g (n + 1 + i) ∧ Kept g.f H H3)
      ⟨[], rfl, (fun c h => by cases h), upd_same, by rw [upd_ne Dl]; exact hl2, fe2.same (same_new nD), ((Kept.of s1).trans kp2).trans (Kept.of (same_new nD))⟩ (fun _ _ _ _ => trivial) ?_ ?_
    · rintro i x H3 H4 hi ⟨m, mi, low, hD, hl3, fe3, kp3⟩ ⟨rfl, rfl⟩
      refine ⟨rfl, yes_kept ?_⟩
      refine ⟨.ref g.f, rfl, .str "abcdefghijklmnopqrstuvwxyz", rfl, g, _, n + 1 + i, rfl, fe3, by omega, .inl ⟨List.range' 97 26, alph, by decide, by decide, fun c H5 hc fe5 kp5 => ?_⟩⟩
      have hD5 := kp5 _ _ Dg hD
      refine ⟨_, hD5, ?_, m ++ [c], ?_, ?_, ?_, ?_, ?_, ?_⟩
      · rw [List.length_map, ones_len]
        exact small1000 (by omega)
      · rw [List.length_append, mi]
        rfl
      · intro x hx
        rcases List.mem_append.mp hx with hx | hx
        · exact low x hx
        · rw [List.mem_singleton.mp hx]
          have := List.mem_range'_1.mp hc
          omega
      · rw [upd_same, ones_snoc, List.map_append]
        rfl
      · rw [upd_ne Dl]
        exact kp5 _ _ lg hl3
      · exact FeedAt.put fe2 nD fe5
      · exact Kept.new (kp3.trans kp5) (Kept.none ((Kept.of s1).trans kp2) Dg nD)
    rintro H3 ⟨stem, sl, low, hD, hl3, fe3, kp3⟩
    refine ⟨tx [], D, ones stem, tx_nil ▸ rfl, rfl, .inl (SqL.of hD), ?_, ?_⟩
    · rw [ones_sum, ones_len, tx_len]
      simp
      omega
    rw [ones_join]
    -- the place, the first letter, the step
    have fit : (tx stem).length ≤ sizeLine := fit_tx (by omega)
    refine ⟨.ref g.f, rfl, .str (tx stem), rfl, .str (tx stem), stem.length, rfl, ⟨fit, (tx_len _).symm⟩, g, stem.length, n + 1 + (1 + e), rfl, fe3, by omega, by omega, Nat.lt_of_lt_of_le (show (stem.length : Int).natAbs < 2 ^ 10 by omega) (Nat.pow_le_pow_right (by decide) (by decide)), fun d2 H4 d20 d21 fe4 kp4 => ?_⟩
    obtain ⟨a, rfl⟩ := Int.eq_ofNat_of_zero_le d20
    have al : a < stem.length := by omega
    refine ⟨.ref g.f, rfl, g, 26, n + 1 + (1 + e) + 1, rfl, fe4, by omega, by decide, by decide, fun f0 H5 _ _ fe5 kp5 => ?_⟩
    refine ⟨.ref g.f, rfl, (by show 8 ≤ sizeLine; decide), fun L nL => ?_⟩
    refine ⟨g, .ref L, n + 1 + (1 + e) + 2, rfl, fe5.same (same_new nL), by omega, .inr ⟨L, [1, 3, 5, 7, 9, 11, 15, 17].map V.int, rfl, SqL.of upd_same, by decide, by decide, fun x H6 hx fe6 kp6 => ?_⟩⟩
    obtain ⟨st, hst, rfl⟩ := List.mem_map.mp hx
    refine ⟨_, _, _, rfl, ?_⟩
    have kp36 : Kept g.f H3 H6 := (kp4.trans kp5).trans ((Kept.of (same_new nL)).trans kp6)
    have hl6 := kp36 _ _ lg hl3
    have kpH6 := kp3.trans kp36
    have stb : -(2 ^ 64) < st ∧ st < 2 ^ 64 := by
      have z : st = 1 ∨ st = 3 ∨ st = 5 ∨ st = 7 ∨ st = 9 ∨ st = 11 ∨ st = 15 ∨ st = 17 := by simpa using hst
      omega
    refine ⟨.int many, rfl, many, rfl, by omega, by omega, ?_⟩
    rw [Int.toNat_natCast]
    refine for_it (walk_range (lo := 0) (n := many)) (fun j σ H7 => ∃ ns v8 v9, σ = [some (.ref g.f), some (.int many), some (.str "abcdefghijklmnopqrstuvwxyz"), some (.ref l), some (.str (tx stem)), some (.int a), some (.int f0), some (.int st), v8, v9] ∧
      H7 l = some (.lst (txs ns)) ∧ ns.length = j ∧ (∀ m ∈ ns, Nm m) ∧ (∀ i m, ns[i]? = some m → m[a]? = some (code f0 st i)) ∧ FeedAt K H7 g (n + 1 + (1 + e) + 3 + j) ∧ Kept g.f H H7) ⟨[], none, none, rfl, hl6, rfl, (fun m h => by cases h), (fun i m h => by simp at h), fe6, kpH6⟩ (fun _ _ _ _ _ => trivial) ?_ ?_
    · rintro j x σ H7 H8 hj ⟨ns, v8, v9, rfl, hl7, nsl, each, codes, fe7, kp7⟩ ⟨rfl, rfl⟩
      refine ⟨.ref g.f, rfl, g, 3, n + 1 + (1 + e) + 3 + j, rfl, fe7, by omega, by decide, by decide, fun d3 H9 _ _ fe9 kp9 => ⟨d3, 0, rfl, rfl, _, rfl, ?_⟩⟩
      have hl9 := kp9 _ _ lg hl7
      have kpH9 := kp7.trans kp9
      have low2 := low
      have toNat : (0 + (j : Int)) = (j : Int) := Int.zero_add _
      obtain ⟨z, hz⟩ := Int.eq_ofNat_of_zero_le (Int.emod_nonneg (f0 + st * (0 + (j : Int))) (b := 26) (by decide))
      have z26 : z < 26 := by
        have := Int.emod_lt_of_pos (f0 + st * (0 + (j : Int))) (b := 26) (by decide)
        omega
      have cz : 97 + z = code f0 st j := by
        unfold code
        rw [Int.zero_add] at hz
        rw [hz]
        rfl
      refine ite2 (fun c => ?_) (fun c => ?_)
      · refine ⟨.str (tx stem), rfl, .int a, rfl, a, 1, rfl, rfl, _, rfl, tx stem, rfl, fit, ?_⟩
        rw [cut_back stem a al]
        have tlow : Low (stem.drop (a + 1)) := fun x hx => low x (List.mem_of_mem_drop hx)
        have tlen : (stem.drop (a + 1)).length + a + 1 ≤ 8 := by
          rw [List.length_drop]
          omega
        generalize stem.drop (a + 1) = tl at tlow tlen
        refine ⟨.ref l, rfl, .inl ⟨rfl, _, SqL.of hl9⟩, .str (tx stem), rfl, .int a, rfl, a, rfl, tx stem, rfl, fit, ?_⟩
        rw [cut_front stem a (Nat.le_of_lt al)]
        refine ⟨.str "abcdefghijklmnopqrstuvwxyz", rfl, .int f0, rfl, .int st, rfl, .int (0 + (j : Int)), rfl, st, 0 + (j : Int), rfl, rfl, .inl stb, _, _, rfl, rfl, _, 26, rfl, rfl, (by show (0 : Int) < 26; decide), "abcdefghijklmnopqrstuvwxyz", _, 97 + z, rfl, rfl, by decide +kernel, ?_, tx (stem.take a), tx [97 + z], rfl, rfl, ?_, .str (tx tl), rfl, _, _, rfl, rfl, ?_, l, _, _, rfl, rfl, hl9, ?_, ns ++ [stem.take a ++ [97 + z] ++ tl], some (.int (0 + (j : Int))), some (.str (tx tl)), rfl, ?_, ?_, ?_, ?_, ?_, ?_⟩
        · rw [alphabet, tx_list, hz]
          exact atI_nat (by rw [List.getElem?_range' z26, Nat.one_mul])
        · rw [tx_len, tx_len, List.length_take]
          exact Nat.le_of_lt (small1000 (by show min a stem.length + 1 ≤ 1000; omega))
        · rw [tx_append, tx_len, tx_len, List.length_append, List.length_take]
          exact Nat.le_of_lt (small1000 (by show min a stem.length + 1 + tl.length ≤ 1000; omega))
        · rw [txs_len, nsl]
          exact small1000 (by omega)
        · rw [upd_same, tx_append, tx_append, txs_snoc]
        · rw [List.length_append, nsl]
          rfl
        · intro x hx
          rcases List.mem_append.mp hx with hx | hx
          · exact each x hx
          · rw [List.mem_singleton.mp hx]
            refine ⟨fun c hc => ?_, ?_, ?_⟩
            · rcases List.mem_append.mp hc with hc | hc
              · rcases List.mem_append.mp hc with hc | hc
                · exact low c (List.mem_of_mem_take hc)
                · rw [List.mem_singleton.mp hc]
                  omega
              · exact tlow c hc
            · rw [List.length_append, List.length_append]
              show 1 ≤ (stem.take a).length + 1 + tl.length
              omega
            · rw [List.length_append, List.length_append, List.length_take]
              show min a stem.length + 1 + tl.length ≤ 8
              omega
        · intro i x hx
          rcases Nat.lt_or_ge i ns.length with li | gi
          · rw [List.getElem?_append_left li] at hx
            exact codes i x hx
          · rw [List.getElem?_append_right gi] at hx
            have i0 : i - ns.length = 0 := by
              have := (List.getElem?_eq_some_iff.mp hx).1
              simp at this
              omega
            rw [i0] at hx
            have ij : i = j := by omega
            rw [← Option.some.inj hx, ij, ← cz, List.append_assoc, List.getElem?_append_right (by rw [List.length_take]; omega), List.length_take, Nat.min_eq_left (Nat.le_of_lt al), Nat.sub_self]
            rfl
        · exact FeedAt.put fe nl fe9
        · exact Kept.new kpH9 nl
      · have tlow : Low ([] : List Nat) := fun x hx => by cases hx
        have tlen : ([] : List Nat).length + a + 1 ≤ 8 := by
          show 0 + a + 1 ≤ 8
          omega
        rw [tx_nil]
        generalize ([] : List Nat) = tl at tlow tlen
        refine ⟨.ref l, rfl, .inl ⟨rfl, _, SqL.of hl9⟩, .str (tx stem), rfl, .int a, rfl, a, rfl, tx stem, rfl, fit, ?_⟩
        rw [cut_front stem a (Nat.le_of_lt al)]
        refine ⟨.str "abcdefghijklmnopqrstuvwxyz", rfl, .int f0, rfl, .int st, rfl, .int (0 + (j : Int)), rfl, st, 0 + (j : Int), rfl, rfl, .inl stb, _, _, rfl, rfl, _, 26, rfl, rfl, (by show (0 : Int) < 26; decide), "abcdefghijklmnopqrstuvwxyz", _, 97 + z, rfl, rfl, by decide +kernel, ?_, tx (stem.take a), tx [97 + z], rfl, rfl, ?_, .str (tx tl), rfl, _, _, rfl, rfl, ?_, l, _, _, rfl, rfl, hl9, ?_, ns ++ [stem.take a ++ [97 + z] ++ tl], some (.int (0 + (j : Int))), some (.str (tx tl)), rfl, ?_, ?_, ?_, ?_, ?_, ?_⟩
        · rw [alphabet, tx_list, hz]
          exact atI_nat (by rw [List.getElem?_range' z26, Nat.one_mul])
        · rw [tx_len, tx_len, List.length_take]
          exact Nat.le_of_lt (small1000 (by show min a stem.length + 1 ≤ 1000; omega))
        · rw [tx_append, tx_len, tx_len, List.length_append, List.length_take]
          exact Nat.le_of_lt (small1000 (by show min a stem.length + 1 + tl.length ≤ 1000; omega))
        · rw [txs_len, nsl]
          exact small1000 (by omega)
        · rw [upd_same, tx_append, tx_append, txs_snoc]
        · rw [List.length_append, nsl]
          rfl
        · intro x hx
          rcases List.mem_append.mp hx with hx | hx
          · exact each x hx
          · rw [List.mem_singleton.mp hx]
            refine ⟨fun c hc => ?_, ?_, ?_⟩
            · rcases List.mem_append.mp hc with hc | hc
              · rcases List.mem_append.mp hc with hc | hc
                · exact low c (List.mem_of_mem_take hc)
                · rw [List.mem_singleton.mp hc]
                  omega
              · exact tlow c hc
            · rw [List.length_append, List.length_append]
              show 1 ≤ (stem.take a).length + 1 + tl.length
              omega
            · rw [List.length_append, List.length_append, List.length_take]
              show min a stem.length + 1 + tl.length ≤ 8
              omega
        · intro i x hx
          rcases Nat.lt_or_ge i ns.length with li | gi
          · rw [List.getElem?_append_left li] at hx
            exact codes i x hx
          · rw [List.getElem?_append_right gi] at hx
            have i0 : i - ns.length = 0 := by
              have := (List.getElem?_eq_some_iff.mp hx).1
              simp at this
              omega
            rw [i0] at hx
            have ij : i = j := by omega
            rw [← Option.some.inj hx, ij, ← cz, List.append_assoc, List.getElem?_append_right (by rw [List.length_take]; omega), List.length_take, Nat.min_eq_left (Nat.le_of_lt al), Nat.sub_self]
            rfl
        · exact FeedAt.put fe nl fe9
        · exact Kept.new kpH9 nl
    · rintro σ H7 ⟨ns, v8, v9, rfl, hl7, nsl, each, codes, fe7, kp7⟩
      refine ⟨.ref l, rfl, q ns l H7 ⟨nsl, each, List.pairwise_iff_getElem.mpr fun i j hi hj ij e => ?_⟩ nl hl7 (fe7.le (by omega)) kp7⟩
      have e1 := codes i _ (List.getElem?_eq_getElem hi)
      have e2 := codes j _ (List.getElem?_eq_getElem hj)
      rw [e, e2] at e1
      exact code_ne (f := f0) hst ij (by omega) (Option.some.inj e1).symm
end
end K23
set_option Elab.async false
set_option linter.all false
set_option maxRecDepth 100000
/-! Defs that are called where no display of a container is under way (so repr of lists and tuples is known). -/
namespace Bp
open PySem PySem.Spec PyProof.Rows L2

/-- room, and no display under way -/
structure RoomG (k : Nat) (A : Around) : Prop where
  room : Room k A
  quiet : A.guards = some []
theorem RoomG.le {j k : Nat} {A : Around} (r : RoomG k A) (h : j ≤ k) : RoomG j A := ⟨r.room.mono h, r.quiet⟩
theorem RoomG.down {k : Nat} {A : Around} (r : RoomG (k + 1) A) (env : Env) : RoomG k (A.deeper env) := ⟨r.room.deeper env, r.quiet⟩

/-- a def's promise there -/
structure FnG (P : Program) (w : World) (K : PySem.W.Frag) (mg : Str → Option Value) (base : Heap) (CX : CXT) (k : Nat) (f : Addr) (fd : FuncData) (ps : List Str) (sp : Sp) : Prop where
  count : ∀ vs H Q E, sp vs H Q E → vs.length = ps.length
  goes : ∀ (A : Around) (outer : List Env) (s : Shared) (H : Hp) (args : Args) (us : List Value) (vs : List V) (Q : VK) (E : XK),
    RoomG k A → Env0 P w K mg base A outer s H → BindsTo s fd args (ps.zip us) → Vals vs us → sp vs H Q E →
      codeAny (model P w) A (.call (.ref f) args) (CR CX outer P w H s Q E) s
section
variable {P : Program} {w : World} {K : PySem.W.Frag} {mg : Str → Option Value} {base : Heap} {CX : CXT} {k : Nat} {f : Addr} {fd : FuncData} {ps : List Str} {sp : Sp}
/-- each def's promise holds there, too -/
theorem FnG.of (F : FnOk P w K mg base CX k f fd ps sp) : FnG P w K mg base CX k f fd ps sp :=
  ⟨F.len, fun A outer s H args us vs Q E r => F.run A outer s H args us vs Q E r.room⟩
theorem FnG.le {j : Nat} (F : FnG P w K mg base CX j f fd ps sp) (h : j ≤ k) : FnG P w K mg base CX k f fd ps sp :=
  ⟨F.count, fun A outer s H args us vs Q E r => F.goes A outer s H args us vs Q E (r.le h)⟩

/-- the rule: a def of the text by its body -/
theorem fnG_of {name qual : Str} {params : Arguments} {body : List Stmt} {scope : Scope} {dV kV doc pm cdv ct oc : Value} {an od : Option Addr} {osl : Array (Option Value)} {N : List Str}
    (there : K.lookup f = some ⟨oc, od, .func (PySem.W.fnOf name qual params body scope dV kV doc pm an cdv ct), osl⟩)
    (code : PySem.W.codeIn K cdv qual = true) (S : FnScope N ps scope) (count : ∀ vs H Q E, sp vs H Q E → vs.length = ps.length)
    (goes : ∀ (A : Around) (outer : List Env) (s : Shared) (H : Hp) (vs : List V) (Q : VK) (E : XK),
      RoomG k (A.deeper (envOfC qual scope s.heap.objs.size f cdv)) → sp vs H Q E →
        ∃ t, PSs (cxOf CX P w K mg base N qual scope f cdv A outer s H E) body t ∧ t { nx := fun _ H' => Q .non H', rt := Q } (start N vs) H) :
    FnG P w K mg base CX (k + 1) f (PySem.W.fnOf name qual params body scope dV kV doc pm an cdv ct) ps sp := by
  constructor
  · exact count
  · intro A outer s H args us vs Q E r e0 bind rv hsp
    have n := count _ _ _ _ hsp
    have old : ∀ b o, base.get? b = some o → s.heap.get? b = some o := fun b o e => (e0.bs b o e).1
    have inH : K.In s.heap := e0.mod.kin.keeps old
    have kinds : ∀ y ∈ ps.zip us, scope.names.lookup y.1 = some .local ∨
        (scope.names.lookup y.1 = some .cell ∧ ((cellsFrom (s.heap.objs.size + 1) scope.names []).lookup y.1).isSome = true) := by
      rintro ⟨x, v⟩ hy
      exact (S.par x (List.of_mem_zip hy).1).elim .inl fun q => .inr ⟨q, PySem.W.cellsFrom_some _ _ _ (.inl q)⟩
    refine codeAny_call_function r.room.depth (inH _ _ there) rfl S.co S.gen rfl (PySem.W.codeRec_of inH code) (bind _ _ _ _ ?_)
    refine wpAny_newFunctionEnv_cells S.kind kinds fun env he s1 x => ?_
    subst he
    refine ⟨(e0.mod.nolimit.keeps old).keeps x.toInCall.keep, codeAny_func ?_⟩
    obtain ⟨t, ht, hq⟩ := goes A outer s H vs Q E (r.down _) hsp
    have I := inv_start (CX := CX) (E := E) (cd := cdv) S r.room.hd e0 n rv x
    refine wpAny_mono (ht.run [] s1 (start N vs) H _ I hq) ?_ fun _ _ z => z
    intro fl s' z
    match fl, z with
    | .ret u, z =>
      obtain ⟨v, _, H', J, rv, q⟩ := z
      exact ⟨v, H', J.os, J.bare, J.base, J.hok, rv, q⟩
    | .next, z =>
      obtain ⟨_, H', J, q⟩ := z
      exact ⟨V.non, H', J.os, J.bare, J.base, J.hok, rfl, q⟩
    | .brk, z =>
      obtain ⟨_, _, _, q⟩ := z
      exact q.elim
    | .cont, z =>
      obtain ⟨_, _, _, q⟩ := z
      exact q.elim
end

section
variable {X : Cx} {CX : CXT} {k : Nat} {f : Addr} {fd : FuncData} {ps : List Str} {sp : Sp} {dvs : List V} {ds : List Value} {E : XK} {x : Str} {p pos : Pos} {e : Expr} {es : List Expr} {t : TA}
theorem go_fnG {pins : List (Addr × Obj)} {σ : L2.St} {H : Hp} {s : Shared} {Q : VK} {us : List Value} {vs : List V}
    (F : FnG X.prog X.w X.K X.mg X.base CX k f fd ps sp) (r : RoomG k X.A) (hb : Binds X.K fd ps ds) (hd : Vals dvs ds) (hx : Passes CX X E)
    (I : Inv X pins σ H s) (rv : Vals vs us) (h : sp (vs ++ dvs) H Q E) : wpAny (model X.prog X.w) X.A (call (.ref f) us) (EP X pins σ Q) X.xe s := by
  have both : Vals (vs ++ dvs) (us ++ ds) := rv.append hd
  have n : (us ++ ds).length = ps.length := both.length.symm.trans (F.count _ _ _ _ h)
  have run := F.goes X.A X.stack s H ⟨us, []⟩ (us ++ ds) (vs ++ dvs) Q E r I.env0 (hb s us I.kIn n) both h
  refine wpAny_call (codeAny_mono run ?_)
  intro res s' z
  match res, z with
  | .error er, z => exact hx pins σ H s er s' I z
  | .ok (.ret u), z => exact I.after z
  | .ok .next, z => exact z.elim
  | .ok .brk, z => exact z.elim
  | .ok .cont, z => exact z.elim
/-- f(e, ..) there -/
theorem pe_callG (F : FnG X.prog X.w X.K X.mg X.base CX k f fd ps sp) (r : RoomG k X.A) (hg : Gl X x) (hm : X.mg x = some (.ref f)) (kept : PySem.W.keepIn X.K (.ref f) = true)
    (hb : Binds X.K fd ps ds) (hd : Vals dvs ds) (hx : Passes CX X E) (ha : PA X (e :: es) t) (nd : (x == ("__debug__" : Str)) = false := by decide)
    (star : starEach (e :: es) X.env = (false, eval e X.env) :: starEach es X.env := by rfl) (plain : (backTo pos (starEach es X.env)).any (·.1) = false := by rfl) :
    PE X (.Call (.Name x p) (e :: es) [] pos) (tCall sp dvs E t) := by
  constructor
  intro pins s σ H Q I h
  apply wpAny_Call_Name_kw
  refine ld_glob I hg hm ?_ nd
  refine PySem.W.callWith_K (h₀ := X.base) I.ok.mod.kin kept ?_ star plain
  refine thn (ha.run pos pins s σ H _ I h) ?_
  rintro us s1 ⟨vs, H1, I1, rv, q⟩
  exact ⟨I1.kIn, go_fnG F r hb hd hx I1 rv q⟩
end

/-! ### the law's own call -/
/-- what is tracked where only the script is: nothing, or the script itself -/
def lone (a : Addr) (o : Obj) (xs : List V) (free : Bool) : Hp := fun b => if b = a ∧ free = true then some (.frz o (.lst xs)) else none
theorem lone_some {a b : Addr} {o : Obj} {xs : List V} {free : Bool} {u : HO} (h : lone a o xs free b = some u) : b = a ∧ free = true ∧ u = .frz o (.lst xs) := by
  unfold lone at h
  by_cases c : b = a ∧ free = true
  · rw [if_pos c] at h
    exact ⟨c.1, c.2, (Option.some.inj h).symm⟩
  · rw [if_neg c] at h
    cases h
theorem lone_only {a : Addr} {o : Obj} {xs : List V} {free : Bool} : Only (lone a o xs free) := fun b => by
  unfold lone
  by_cases c : b = a ∧ free = true
  · exact .inr ⟨o, xs, if_pos c⟩
  · exact .inl (if_neg c)
theorem lone_none {a b : Addr} {o : Obj} {xs : List V} {free : Bool} (h : ¬ (b = a ∧ free = true)) : lone a o xs free b = none := if_neg h

theorem callG {P : Program} {w : World} {K : PySem.W.Frag} {mg mb : Str → Option Value} {CX : CXT} {k : Nat} {fa a : Addr} {fd : FuncData} {x : Str} {sp : Sp} {s₁ : Shared} {vs : List Value} {ns : List Int}
    (KX : K.In s₁.heap) (hns : s₁.heap.Ns mainGlobals mg) (hb : s₁.heap.Ns builtinsNs mb) (names : ∀ x : Str, x ≠ "__name__" → mb x = bootBuiltins x) (wide : s₁.heap.NoLimit) (hg : s₁.gens = #[])
    (ha : s₁.heap.get? a = some { cls := .type "list", data := .seq vs.toArray }) (hi : IntsAre vs ns) (hl : ns.length ≤ sizeLine) (hr : RoomG k callerA)
    (F : ∀ base : Heap, K.In base → base.Ns mainGlobals mg → FnG P w K mg base CX k fa fd [x] sp) (bind : ∀ (s : Shared) (u : Value), BindsTo s fd ⟨[u], []⟩ [(x, u)])
    (asked : ∀ H : Hp, Only H → SqL K H a (ns.map V.int) → sp [.ref a] H (fun v _ => v = .bl true) fun _ _ _ => False)
    (none_out : ∀ H e s', CX [] H s₁ (fun _ _ _ => False) e s' → False) :
    codeAny (model P w) callerA (.call (.ref fa) ⟨[.ref a], []⟩) (fun r s' => r = .ok (.ret (.bool true)) ∧ OldK s₁.heap s'.heap ∧ s'.os = s₁.os ∧ AllBare s'.gens) s₁ := by
  have rv := vals_ints hi
  have size := hi.length
  have held : (ns.map V.int).length ≤ sizeLine := by rw [List.length_map]; exact hl
  -- the script is tracked where the module doesn't know it
  let script : Obj := { cls := .type "list", data := .seq vs.toArray }
  let free : Bool := (K.lookup a).isNone
  let H : Hp := lone a script (ns.map V.int) free
  have hok : HOk P w H s₁.heap := fun b u e => by
    obtain ⟨rfl, _, rfl⟩ := lone_some e
    exact ⟨ha, held, vs, _, rv, ha⟩
  have seq : SqL K H a (ns.map V.int) := by
    cases q : K.lookup a with
    | none =>
      exact .inl (.inr ⟨script, if_pos ⟨rfl, by show (K.lookup a).isNone = true; rw [q]; rfl⟩⟩)
    | some o =>
      have z := KX a o q
      rw [ha] at z
      cases z
      exact .inr ⟨_, vs.toArray, _, q, rfl, rfl, rfl, by rw [List.size_toArray, size]; exact hl, by simpa using rv⟩
  have offK : ∀ b o, K.lookup b = some o → H b = none := fun b o e => lone_none fun ⟨c1, c2⟩ => by
    rw [c1] at e
    have c3 : (K.lookup a).isNone = true := c2
    rw [e] at c3
    cases c3
  have offD : ∀ {b : Addr} {o : Obj} {es : Array DictEntry} {ep : Nat}, s₁.heap.get? b = some o → o.data = .dict es ep → H b = none := fun {b o es ep} e d => lone_none fun ⟨c1, _⟩ => by
    rw [c1, ha] at e
    cases e
    cases d
  have nsB : ∀ {b : Addr} {m : Str → Option Value}, s₁.heap.Ns b m → (hidT s₁.heap H).Ns b m := by
    rintro b m ⟨o, es, ep, e, d, r⟩
    exact ⟨o, es, ep, hidT_get e (offD e d), d, r⟩
  have inB : K.In (hidT s₁.heap H) := fun b o e => hidT_get (KX b o e) (offK b o e)
  obtain ⟨mc, w1, w2⟩ := wide
  have mod : Mod K mg (hidT s₁.heap H) := ⟨inB, nsB hns, ⟨mb, nsB hb, names⟩, ⟨mc, nsB w1, w2⟩⟩
  have none_in : ∀ b : Addr, b ∉ frs ([] : List Env) := fun b z => by
    have z' : b ∈ ([] : List Addr) := z
    cases z'
  have e0 : Env0 P w K mg (hidT s₁.heap H) callerA [] s₁ H :=
    { frames := rfl, mod := mod, bs := fun b o e => of_hidT e, bsz := Nat.le_of_eq (hidT_size _ _), funs := trivial, frf := fun b z => (none_in b z).elim, hok := hok, bare := .of_eq hg }
  have run := (F _ inB (nsB hns)).goes callerA [] s₁ H ⟨[.ref a], []⟩ [.ref a] [.ref a] _ _ hr e0 (bind s₁ (.ref a)) (.cons rfl .nil) (asked H lone_only seq)
  refine codeAny_mono run ?_
  intro r s' z
  match r, z with
  | .error er, z => exact (none_out H er s' z).elim
  | .ok .next, z => exact z.elim
  | .ok .brk, z => exact z.elim
  | .ok .cont, z => exact z.elim
  | .ok (.ret u), z =>
    obtain ⟨v, H', os, bare, un, hok', r', q⟩ := z
    cases (show v = .bl true from q)
    cases (show u = Value.bool true from r')
    refine ⟨rfl, OldK.of_keep fun b o e => ?_, os, bare⟩
    cases c : H b with
    | none => exact un.keep b o e c (none_in b) (by simp)
    | some u =>
      obtain ⟨rfl, _, rfl⟩ := lone_some c
      have after := hok' b _ (un.frzs b _ _ c)
      rw [ha] at e
      cases e
      exact after.1

/-- the goal that the head leaves, from the law's promise -/
theorem walkG {l : PySem.W.OpenLaw} {n k : Nat} {q : Program} {loose : List Str} {XP : (Str → Option Value) → Heap → Prop} {YP : World → Heap → Prop} {d : DefRec} {K : Params → PySem.W.Frag} {CX : World → CXT} {sp : World → Sp} {x : Str}
    (most : l.most = some n) (small : n ≤ sizeLine) (plain : d.params.defaults = []) (hr : RoomG k callerA) (inK : ∀ (w : World) (h : Heap), YP w h → (K w.params).In h)
    (F : ∀ (w : World) (mg : Str → Option Value) (fa : Addr) (h : Heap), (K w.params).In h → h.Ns mainGlobals mg → mg d.name = some (.ref fa) →
      ∃ fd : FuncData, (∀ (s : Shared) (u : Value), BindsTo s fd ⟨[u], []⟩ [(x, u)]) ∧
        ∀ base : Heap, (K w.params).In base → base.Ns mainGlobals mg → FnG l.prog w (K w.params) mg base (CX w) k fa fd [x] (sp w))
    (asked : ∀ (w : World) (H : Hp) (a : Addr) (ns : List Int), ns.length ≤ n → Only H → SqL (K w.params) H a (ns.map V.int) → sp w [.ref a] H (fun v _ => v = .bl true) fun _ _ _ => False)
    (none_out : ∀ (w : World) (H : Hp) (s : Shared) (e : Value) (s' : Shared), CX w [] H s (fun _ _ _ => False) e s' → False) :
    PySem.W.WalkO q loose XP YP l.row.toRowW d [] (fun f vs => PySem.call f vs) := by
  apply Att.attach_call most plain
  intro w s₀ s₁ mg mb fa o pm cd doc a vs ns G Y ho hd hcd hmg hobj hints hlen hg
  have KX := inK w _ Y
  obtain ⟨fd, bind, hF⟩ := F w mg fa _ KX G.T.g hmg
  refine callG KX G.T.g G.T.b G.T.builtins G.T.nolimit hg hobj hints (Nat.le_trans hlen small) hr hF bind ?_ ?_
  · intro H only seq
    exact asked w H a ns hlen only seq
  · intro H e s' z
    exact none_out w H s₁ e s' z
theorem roomG_caller {k : Nat} (r : Room k callerA) : RoomG k callerA := ⟨r, rfl⟩
end Bp
set_option Elab.async false
set_option linter.all false
set_option maxRecDepth 100000
set_option maxHeartbeats 1000000
/-! Rules that the bundles don't bring: repr, a text so many times, list and sorted of a text. -/
namespace Bp
open PySem PySem.Spec PyProof.Rows L2

/-! ### repr -/
/-- what repr makes of a thing that is no object -/
def shownV : V → Option Str
  | .non => some "None"
  | .bl b => some (if b then "True" else "False")
  | .str z => some (reprText z)
  | .int i => some (toString i)
  | _ => none
/-- .. within bounds -/
def shownFits : V → Prop
  | .str z => (reprText z).length ≤ sizeLine
  | .int i => i.natAbs.log2 < 1920
  | _ => True
section
variable {X : Cx}
theorem call_reprV : CallR X (.builtin "repr") (fun xs H Q => ∃ x z, xs = [x] ∧ shownV x = some z ∧ shownFits x ∧ Q (.str z) H) := by
  intro pins s σ H xs us Q I r h
  obtain ⟨x, z, rfl, hx, fit, q⟩ := h
  obtain ⟨u, rfl, rx⟩ := vals1 r
  cases x with
  | non =>
    cases rx
    cases hx
    exact PySem.P.repr_of_none ⟨.str _, H, I.tok _, ⟨_, rfl⟩, q⟩
  | bl b =>
    cases rx
    cases hx
    exact PySem.P.repr_of_bool ⟨.str _, H, I.tok _, ⟨_, rfl⟩, q⟩
  | str y =>
    obtain ⟨t, rfl⟩ := rx
    cases hx
    exact PySem.P.repr_of_str (hsz := fit) ⟨.str _, H, I.tok _, ⟨_, rfl⟩, q⟩
  | int i =>
    obtain ⟨t, rfl⟩ := rx
    cases hx
    exact PySem.P.repr_of_int fit ⟨.str _, H, I.tok _, ⟨_, rfl⟩, q⟩
  | byt b => cases hx
  | flt b => cases hx
  | ref a => cases hx
  | ty n => cases hx

/-- of a list or tuple, of data: where no display is under way -/
theorem call_reprD (quiet : X.A.guards = some []) (room : X.A.units + 64 < cLine) :
    CallR X (.builtin "repr") (fun xs H Q => ∃ (p : Addr) (d : PyData), xs = [.ref p] ∧ Dp X.K H (.ref p) d ∧ d.showable = true ∧ d.hasDict = false ∧ d.depth ≤ 60 ∧ d.shown.length ≤ sizeLine ∧ Q (.str d.shown) H) := by
  intro pins s σ H xs us Q I r h
  obtain ⟨p, d, rfl, hd, sh, nd, deep, fit, q⟩ := h
  obtain ⟨u, rfl, rx⟩ := vals1 r
  obtain ⟨as, rd⟩ := Dp.reads I d _ u hd rx
  cases rx
  refine repr_of_reads' rd sh (fun z => by rw [nd] at z; cases z) quiet (by omega) (fun _ _ e => e) (fun h' u tk kept => ?_) fit
  exact ⟨.str _, H, I.kept (t' := tk) kept, ⟨_, rfl⟩, q⟩

/-! ### a text so many times -/
def timesS (z : Str) (n : Nat) : Str := ⟨(List.replicate n z.cps).foldl (· ++ ·) #[]⟩
theorem op_mul_str : OpR X (binaryOp .Mult) (fun x y H Q => ∃ (z : Str) (n : Nat), x = .str z ∧ y = .int n ∧ 2 ≤ n ∧ n ≤ 1000 ∧ z.length ≠ 0 ∧ z.length ≤ 1000 ∧ Q (.str (timesS z n)) H) := by
  intro pins s σ H x y v u Q I rx ry h
  obtain ⟨z, n, rfl, rfl, lo, hi, some, short, q⟩ := h
  obtain ⟨t, rfl⟩ := rx
  obtain ⟨t', rfl⟩ := ry
  have ne1 : ¬ ((n : Int) < 1) := by omega
  have c1 : ((n : Int) == 1) = false := by
    rw [beq_eq_false_iff_ne]
    omega
  have c2 : (z.length == 0) = false := beq_eq_false_iff_ne.mpr some
  have c3 : ((n : Int) == 1 || z.length == 0) = false := by rw [c1, c2]; rfl
  have en : (n : Int).toNat = n := Int.toNat_natCast n
  have big : z.length * n ≤ 1000000 := Nat.mul_le_mul short hi
  refine PySem.P.mul_str ?_ ?_ ?_ ?_
  · have a1 : ¬ ((n : Int) < -(2 ^ 63)) := by omega
    have a2 : ¬ ((n : Int) ≥ 2 ^ 63) := by omega
    rw [decide_eq_false a1, decide_eq_false a2]
    rfl
  · intro _ _ g
    have k : (2 ^ 63 - 1 : Int) / n ≥ 1000 := by
      apply Int.le_ediv_of_mul_le (by omega)
      omega
    omega
  · intro _ _
    rw [en]
    unfold PySem.Builtin.Str.tooLong
    apply decide_eq_false
    have e := sizeLine_eq
    omega
  · rw [if_neg ne1, if_neg (by rw [c3]; exact Bool.false_ne_true), en]
    refine ⟨?_, ?_⟩
    · show (timesS z n).length ≤ sizeLine
      have e : (timesS z n).length = n * z.length := by
        unfold timesS Str.length
        have fold : ∀ (m : Nat) (acc : Array Nat), ((List.replicate m z.cps).foldl (· ++ ·) acc).size = acc.size + m * z.cps.size := by
          intro m
          induction m with
          | zero =>
            intro acc
            simp
          | succ m ih =>
            intro acc
            rw [List.replicate_succ, List.foldl_cons, ih, Array.size_append, Nat.succ_mul]
            omega
        rw [fold]
        simp
      rw [e, Nat.mul_comm]
      have e := sizeLine_eq
      omega
    · exact ⟨.str (timesS z n), H, I.tok _, ⟨_, rfl⟩, q⟩

/-! ### list(text), sorted(text) -/
/-- a text's signs, one text each -/
def signsS (z : Str) : List Str := z.cps.toList.map fun c => ⟨#[c]⟩
theorem signs_vals {z : Str} {acc : Array Value} (h : ItemsOf (SignAt z) acc z.cps.size) : Vals ((signsS z).map V.str) acc.toList ∧ StrsAre acc.toList (signsS z) := by
  obtain ⟨n, at_⟩ := h
  have key : ∀ (cs : List Nat) (vs : List Value), vs.length = cs.length → (∀ (j : Nat) (v : Value), vs[j]? = some v → ∃ (c : Nat) (u : Tok), cs[j]? = some c ∧ v = Value.str ⟨#[c]⟩ u) →
      Vals ((cs.map fun c => (⟨#[c]⟩ : Str)).map V.str) vs ∧ StrsAre vs (cs.map fun c => ⟨#[c]⟩) := by
    intro cs
    induction cs with
    | nil =>
      intro vs hl _
      have : vs = [] := List.length_eq_zero_iff.mp hl
      subst this
      exact ⟨.nil, .nil⟩
    | cons c cs ih =>
      intro vs hl hv
      cases vs with
      | nil => cases hl
      | cons v vs =>
        obtain ⟨c', u, e1, e2⟩ := hv 0 v rfl
        cases e1
        subst e2
        obtain ⟨a1, a2⟩ := ih vs (by simpa using hl) fun j w hw => hv (j + 1) w hw
        exact ⟨.cons ⟨u, rfl⟩ a1, .cons _ _ a2⟩
  refine key z.cps.toList acc.toList (by simpa using n) fun j v hv => ?_
  obtain ⟨c, u, e1, e2⟩ := at_ j v (by simpa using hv)
  exact ⟨c, u, by simpa using e1, e2⟩
theorem call_list_text (calm : X.calm = true) : CallR X (.type "list") (fun xs H Q => ∃ z, xs = [.str z] ∧ z.length ≤ sizeLine ∧ ∀ l, H l = none → Q (.ref l) (upd H l (.lst ((signsS z).map V.str)))) := by
  intro pins s σ H xs us Q I r h
  obtain ⟨z, rfl, fit, q⟩ := h
  obtain ⟨u, rfl, t, rfl⟩ := vals1 r
  refine call_list_str (I.ok.hd calm) z t (fun h' tk acc c kept new items => ?_) fit
  have free := I.hok.fresh (Nat.le_refl s.heap.objs.size)
  obtain ⟨rv, _⟩ := signs_vals items
  have n : ((signsS z).map V.str).length ≤ sizeLine := by
    rw [List.length_map]
    unfold signsS
    rw [List.length_map, Array.length_toList]
    exact fit
  exact ⟨.ref s.heap.objs.size, _, I.laid (t' := tk) kept (Nat.le_refl _) (show ObjOk X.prog X.w _ h' _ (.lst ((signsS z).map V.str)) from ⟨n, acc.toList, c, rv, by simpa using new⟩), rfl, q _ free⟩

theorem sorted_kept {h : Heap} {vs : List Value} {out : Array Value} {b : Addr} {o : Obj} (e : h.get? b = some o) : (sortedHeap (h.push (seqObj "list" vs.toArray 0)) h.objs.size vs out).get? b = some o := by
  have ne : b ≠ h.objs.size := Nat.ne_of_lt (Heap.lt_size e)
  unfold sortedHeap
  rw [Heap.get?_update_other _ _ (Ne.symm ne)]
  refine Heap.get?_push_of_some _ (Heap.get?_push_of_some _ ?_)
  rw [Heap.get?_update_other _ _ (Ne.symm ne)]
  exact Heap.get?_push_of_some _ e
theorem sorted_new {h : Heap} {vs : List Value} {out : Array Value} : ∃ n, (sortedHeap (h.push (seqObj "list" vs.toArray 0)) h.objs.size vs out).get? h.objs.size = some (seqObj "list" out n) := by
  have at0 : (h.push (seqObj "list" vs.toArray 0)).get? h.objs.size = some (seqObj "list" vs.toArray 0) := Heap.get?_push_size _ rfl
  have at1 := get?_update_seq at0 (fun _ => #[])
  unfold sortedHeap
  refine ⟨_, get?_update_seq (Heap.get?_push_of_some _ (Heap.get?_push_of_some _ at1)) _⟩
theorem call_sorted_text (calm : X.calm = true) : CallR X (.builtin "sorted") (fun xs H Q => ∃ z, xs = [.str z] ∧ z.length < 64 ∧ ∀ (ys : List Str) (l : Addr), ys.Perm (signsS z) → sortedS ys = true → H l = none → Q (.ref l) (upd H l (.lst (ys.map V.str)))) := by
  intro pins s σ H xs us Q I r h
  obtain ⟨z, rfl, short, q⟩ := h
  obtain ⟨u, rfl, t, rfl⟩ := vals1 r
  have fit : z.cps.size ≤ sizeLine := by
    have e := sizeLine_eq
    have : z.cps.size < 64 := short
    omega
  refine Calls.call_function_entry kind_sorted plain_sorted entry_sorted (args_sorted1 _) ?_
  unfold Builtin.«sorted»
  refine wpAny_bind (m := checkCount "sorted" 1 1 _) (wpAny_pure ?_)
  refine wpAny_bind (wpAny_collect_str (A := X.A.in1) (show X.A.in1.handled = none from I.ok.hd calm) z t (fun s' acc kept eg ed eo items => ?_) fit)
  obtain ⟨hp, g, dr, tk, os⟩ := s'
  obtain ⟨rv, sa⟩ := signs_vals items
  have size : acc.toList.length < 64 := by
    rw [Array.length_toList, items.1]
    exact short
  refine wpAny_bind (wpAny_newList ?_)
  have at0 : (hp.push (seqObj "list" acc.toList.toArray 0)).get? hp.objs.size = some (seqObj "list" acc.toList.toArray 0) := Heap.get?_push_size _ rfl
  show wpAny _ _ _ _ _ (⟨hp.push (seqObj "list" acc.toList.toArray 0), g, dr, tk, os⟩ : Shared)
  refine wpAny_bind (wpAny_holding (wpAny_call_entry slot_list_sort ⟨_, at0, rfl⟩ entry_list_sort (list_sort_treeK strKind_oneLt at0 sa.keysOf (fun v₁ v₂ rest e => keyKind_strs (by rw [← e]; exact sa)) size fun st perm srt => ⟨_, rfl, ?_⟩) (args_list_sort _)))
  refine wpAny_pure ⟨_, rfl, ?_⟩
  obtain ⟨ys, y1, y2, y3⟩ := sorted_out_str sa perm srt
  obtain ⟨n, new⟩ := sorted_new (h := hp) (vs := acc.toList) (out := (arrOf st).map (·.2))
  cases eg
  cases ed
  cases eo
  have I1 : Inv X pins σ H ⟨hp, s.gens, s.drawn, tk, s.os⟩ := I.kept (t' := tk) kept
  have free := I1.hok.fresh (Nat.le_refl hp.objs.size)
  have n64 : (ys.map V.str).length ≤ sizeLine := by
    rw [List.length_map, y2.length_eq]
    unfold signsS
    rw [List.length_map, Array.length_toList]
    exact fit
  refine ⟨.ref hp.objs.size, upd H hp.objs.size (.lst (ys.map V.str)), ?_, rfl, q ys _ y2 y3 free⟩
  exact I1.laid (t' := tk) (h' := sortedHeap (hp.push (seqObj "list" acc.toList.toArray 0)) hp.objs.size acc.toList ((arrOf st).map (·.2))) (a := hp.objs.size) (o := .lst (ys.map V.str))
    (fun b o e => sorted_kept e) (Nat.le_refl _) ⟨n64, ((arrOf st).map (·.2)).toList, n, vals_of_strs y1, by
      rw [Array.toArray_toList]
      exact new⟩
end
end Bp
set_option Elab.async false
set_option linter.all false
set_option maxRecDepth 100000
set_option maxHeartbeats 2000000
set_option exponentiation.threshold 400
/-! The law's own hand: tables. -/
namespace K23
open PySem PySem.Spec PyProof.Rows L2 Bp
theorem map_erase {α β : Type} (g : α → β) : ∀ (l : List α) (i : Nat), (l.map g).eraseIdx i = (l.eraseIdx i).map g
  | [], _ => rfl
  | _ :: _, 0 => rfl
  | x :: l, i + 1 => by
    rw [List.map_cons, List.eraseIdx_cons_succ, List.eraseIdx_cons_succ, List.map_cons, map_erase g l i]
theorem signs_ones (l : List Nat) : signsS (tx l) = ones l := by
  unfold signsS ones
  rw [tx_list]
  rfl
section
variable {P : Program} {w : World} {K : PySem.W.Frag} {mg : Str → Option Value} {base : Heap}
abbrev NsT : List Str := ["_law_feed_here", "_law_signs_here", "_law_found", "_law_is_plain", "_law_k", "_law_left", "_law_row", "_law_turn"]
theorem scTable : FnScope NsT ["_law_feed_here", "_law_signs_here"] (defScope s_law_table) := ⟨rfl, rfl, rfl, by decide +kernel, rfl, by decide +kernel, by decide +kernel⟩
def RowOk (s m : List Nat) : Prop := m.length = s.length ∧ ∀ c ∈ m, c ∈ s
def sp_table (K : PySem.W.Frag) : Sp := fun vs H Q _ => ∃ (g : Fed) (s : List Nat) (n : Nat), vs = [.ref g.f, .str (tx s)] ∧ K33.Signs s ∧ FeedAt K H g n ∧ n ≤ 2 ^ 30 ∧
  ∀ rows T H', rows.length = s.length → (∀ m ∈ rows, RowOk s m) → H T = none → H' T = some (.tup (txs rows)) → FeedAt K H' g (n + 20) → Kept g.f H H' → Q (.ref T) H'
theorem ok_table {f fD fP : Addr} {fd fdD fdP : FuncData} {k : Nat} (B : Blt mg) (F : Fun K "_law_table" "_law_table" s_law_table f fd) (FD : Fun K "_law_draw" "_law_draw" s_law_draw fD fdD) (bD : Binds K fdD ["_law_feed_here", "_law_many"] []) (gD : mg "_law_draw" = some (.ref fD))
    (GD : Drw P w K mg base k fD fdD) (FP : Fun K "_law_pick" "_law_pick" s_law_pick fP fdP) (bP : Binds K fdP ["_law_feed_here", "_law_some"] []) (gP : mg "_law_pick" = some (.ref fP)) (GP : Pck P w K mg base k fP fdP) : FnOk P w K mg base CX0 (k + 1) f fd ["_law_feed_here", "_law_signs_here"] (sp_table K) := by
  refine F.ok scTable (fun vs H Q E h => ?_) (fun cdv A outer sh H vs Q E hr h => ?_)
  · obtain ⟨g, s, n, rfl, _⟩ := h
    rfl
  · obtain ⟨g, s, n, rfl, hs, fe, hn, q⟩ := h
    refine ⟨_, pss_cons (ps_par (i := 2) (j := 3) rfl scTable.nd rfl rfl (by decide) rfl rfl (pa_cons (pe_lst pa_nil) (pa_cons (pe_cmpR op_eq (pe_call GD hr rfl gD FD.kp bD .nil pass0 (pa_cons (pv 0) (pa_cons pe_int pa_nil))) pe_int (nomark _)) pa_nil)) (by rfl))
      (pss_cons (ps_for PassesOwn.never rfl (pi_range1 (by rfl) B.rng (pa_cons (pe_callB call_len (by rfl) B.len PySem.boot_len (pa_cons (pv 1) pa_nil)) pa_nil)) (pg_name (i := 4) scTable.nd rfl (Or.inl rfl))
        (pss_cons (ps_if (pt_val (pv 3))
          (pss_cons (ps_par (i := 5) (j := 6) rfl scTable.nd rfl rfl (by decide) rfl rfl (pa_cons (pe_callTy (call_list_text rfl) (by rfl) B.list (by decide +kernel) (pa_cons (pv 1) pa_nil)) (pa_cons pe_str pa_nil)) (by rfl))
          (pss_one (ps_for PassesOwn.never rfl (pi_range1 (by rfl) B.rng (pa_cons (pe_callB call_len (by rfl) B.len PySem.boot_len (pa_cons (pv 1) pa_nil)) pa_nil)) (pg_name (i := 7) scTable.nd rfl (Or.inl rfl))
            (pss_one (ps_set (i := 6) scTable.nd rfl (.inl rfl) (pe_op op_add_str (pv 6) (pe_bm PySem.F.plainAttrs_list PySem.F.slot_list_pop PySem.F.type_list_pop mt_popAt (pv 5)
              (pa_cons (pe_call GD hr rfl gD FD.kp bD .nil pass0 (pa_cons (pv 0) (pa_cons (pe_callB call_len (by rfl) B.len PySem.boot_len (pa_cons (pv 5) pa_nil)) pa_nil))) pa_nil))))))))
          (pss_one (ps_set (i := 6) scTable.nd rfl (.inl rfl) (pe_join pe_str (pe_lc (own := [("_law_turn", 7)]) (g := gName 7) (tt := tYes) rfl scTable.nd (pi_range1 (by rfl) B.rng (pa_cons (pe_callB call_len (by rfl) B.len PySem.boot_len (pa_cons (pv 1) pa_nil)) pa_nil))
            (blkOk_by (own := [("_law_turn", 7)]) (N := NsT) (sc := defScope s_law_table) (by decide +kernel)) (fun _ _ _ _ _ => pg_name (i := 7) scTable.nd rfl (Or.inl rfl)) (fun _ _ _ _ _ => pts_nil) (fun _ _ _ _ _ => pe_call GP hr rfl gP FP.kp bP .nil pass0 (pa_cons (pv 0) (pa_cons (pv 1) pa_nil))))))))
        (pss_one (ps_expr (pe_bm PySem.F.plainAttrs_list PySem.F.slot_list_append PySem.F.type_list_append mt_append (pv 2) (pa_cons (pv 6) pa_nil))))))
      (pss_one (ps_ret (pe_callTy call_tuple_of (by rfl) B.tuple (by decide +kernel) (pa_cons (pv 2) pa_nil))))), ?_⟩
    have s4 := hs.hi
    have s2 := hs.lo
    have fit : (tx s).length ≤ sizeLine := fit_tx (by omega)
    refine ⟨(by show 0 ≤ sizeLine; decide), fun l nl => ?_⟩
    have lg : l ≠ g.f := fe.ne nl
    refine ⟨.ref g.f, rfl, g, 3, n, rfl, fe.same (same_new nl), by omega, by decide, by decide, fun d H1 _ _ fe1 kp1 => ⟨rfl, _, _, rfl, ?_⟩⟩
    have hl1 := kp1 _ _ lg (upd_same (H := H) (a := l) (o := .lst []))
    have kpH1 : Kept g.f H H1 := (Kept.of (same_new nl)).trans kp1
    generalize decide (V.int d = V.int 0) = pl
    refine ⟨.str (tx s), rfl, .str (tx s), s.length, rfl, ⟨fit, (tx_len s).symm⟩, s.length, rfl, by omega, by omega, ?_⟩
    rw [Int.toNat_natCast]
    refine for_it (walk_range (lo := 0) (n := s.length)) (fun i σ H2 => ∃ rows v4 v5 v6 v7, σ = [some (.ref g.f), some (.str (tx s)), some (.ref l), some (.bl pl), v4, v5, v6, v7] ∧ H2 l = some (.lst (txs rows)) ∧ rows.length = i ∧ (∀ m ∈ rows, RowOk s m) ∧ FeedAt K H2 g (n + 1 + 4 * i) ∧ Kept g.f H H2)
      ⟨[], none, none, none, none, rfl, hl1, rfl, (fun m h => by cases h), fe1, kpH1⟩ (fun _ _ _ _ _ => trivial) ?_ ?_
    · rintro i x σ H2 H2' hi ⟨rows, v4, v5, v6, v7, rfl, hl2, rl, each, fe2, kp2⟩ ⟨rfl, rfl⟩
      have app : ∀ (row : List Nat) (H5 : Hp), RowOk s row → H5 l = some (.lst (txs rows)) → (txs rows).length < sizeLine ∧ ∀ m ∈ rows ++ [row], RowOk s m := fun row H5 ro e => by
        refine ⟨by rw [txs_len, rl]; exact small1000 (by omega), fun m hm => ?_⟩
        rcases List.mem_append.mp hm with hm | hm
        · exact each m hm
        · rw [List.mem_singleton.mp hm]
          exact ro
      refine ⟨.bl pl, rfl, pl, rfl, ?_⟩
      cases pl with
      | true =>
        refine iteT ?_
        refine ⟨.str (tx s), rfl, tx s, rfl, fit, fun l2 nl2 => ?_⟩
        rw [signs_ones]
        have l2g : l2 ≠ g.f := fe2.ne nl2
        have l2l : l ≠ l2 := ne_of_none hl2 nl2
        refine ⟨_, _, rfl, .str (tx s), rfl, .str (tx s), s.length, rfl, ⟨fit, (tx_len s).symm⟩, s.length, rfl, by omega, by omega, ?_⟩
        rw [Int.toNat_natCast]
        refine for_it (walk_range (lo := 0) (n := s.length)) (fun j σ H3 => ∃ acc rest v, σ = [some (.ref g.f), some (.str (tx s)), some (.ref l), some (.bl true), some (.int (0 + (i : Int))), some (.ref l2), some (.str (tx acc)), v] ∧ H3 l2 = some (.lst ((ones rest).map V.str)) ∧
          acc.length = j ∧ rest.length + j = s.length ∧ (∀ c ∈ acc, c ∈ s) ∧ (∀ c ∈ rest, c ∈ s) ∧ H3 l = some (.lst (txs rows)) ∧ FeedAt K H3 g (n + 1 + 4 * i + j) ∧ Kept g.f H H3)
          ⟨[], s, v7, by rw [← tx_nil]; rfl, upd_same, rfl, rfl, (fun c h => by cases h), fun _ h => h, by rw [upd_ne l2l]; exact hl2, fe2.same (same_new nl2), kp2.trans (Kept.of (same_new nl2))⟩ (fun _ _ _ _ _ => trivial) ?_ ?_
        · rintro j x σ H3 H3' hj ⟨acc, rest, v, rfl, hl3, al, rl3, ha, hrst, hlk, fe3, kp3⟩ ⟨rfl, rfl⟩
          have r0 : 0 < rest.length := by omega
          refine ⟨.str (tx acc), rfl, .ref l2, rfl, .inl ⟨rfl, _, SqL.of hl3⟩, .ref g.f, rfl, .ref l2, rfl, .ref l2, rest.length, rfl, .inl ⟨_, SqL.of hl3, by rw [List.length_map, ones_len]⟩, g, rest.length, n + 1 + 4 * i + j, rfl, fe3, by omega, by omega, Nat.lt_of_lt_of_le (show (rest.length : Int).natAbs < 2 ^ 10 by omega) (Nat.pow_le_pow_right (by decide) (by decide)), fun d3 H4 d0 d1 fe4 kp4 => ?_⟩
          obtain ⟨z, rfl⟩ := Int.eq_ofNat_of_zero_le d0
          have zl : z < rest.length := by omega
          have hl4 := kp4 _ _ l2g hl3
          have gt : ((ones rest).map V.str)[z]? = some (.str (tx [rest[z]])) := by
            unfold ones
            rw [List.map_map, List.getElem?_map, List.getElem?_eq_getElem zl]
            rfl
          refine ⟨l2, _, z, z, .str (tx [rest[z]]), rfl, rfl, hl4, by omega, by omega, ?_, gt, tx acc, tx [rest[z]], rfl, rfl, ?_, acc ++ [rest[z]], rest.eraseIdx z, some (.int (0 + (j : Int))), ?_, ?_, ?_, ?_, ?_, ?_, ?_, ?_, ?_⟩
          · rw [List.length_map, ones_len]
            refine (ixN_seq ?_).1
            unfold ixN
            rw [if_pos (by omega), if_pos (by omega)]
            simp
          · rw [tx_len, tx_len]
            exact Nat.le_of_lt (small1000 (by show acc.length + 1 ≤ 1000; omega))
          · rw [tx_append]
            rfl
          · rw [upd_same]
            unfold ones
            rw [List.map_map, List.map_map, map_erase]
          · rw [List.length_append, al]
            rfl
          · rw [List.length_eraseIdx_of_lt zl]
            omega
          · intro c hc
            rcases List.mem_append.mp hc with hc | hc
            · exact ha c hc
            · rw [List.mem_singleton.mp hc]
              exact hrst _ (List.getElem_mem zl)
          · intro c hc
            exact hrst c (List.mem_of_mem_eraseIdx hc)
          · rw [upd_ne l2l]
            exact kp4 _ _ lg hlk
          · exact FeedAt.put fe2 nl2 fe4
          · exact Kept.new (kp3.trans kp4) (Kept.none kp2 l2g nl2)
        · rintro σ H3 ⟨acc, rest, v, rfl, hl3, al, rl3, ha, hrst, hlk, fe3, kp3⟩
          obtain ⟨few, all⟩ := app acc H3 ⟨al, ha⟩ hlk
          refine ⟨.ref l, rfl, .inl ⟨rfl, _, SqL.of hlk⟩, .str (tx acc), rfl, l, _, _, rfl, rfl, hlk, few, rows ++ [acc], _, _, _, _, rfl, by rw [upd_same, txs_snoc], by rw [List.length_append, rl]; rfl, all, FeedAt.put fe nl (fe3.le (by omega)), Kept.new kp3 nl⟩
      | false =>
        refine iteF ?_
        refine ⟨⟨_, rfl⟩, .str (tx s), rfl, .str (tx s), s.length, rfl, ⟨fit, (tx_len s).symm⟩, s.length, rfl, by omega, by omega, fun D nD => ?_⟩
        rw [Int.toNat_natCast]
        have Dg : D ≠ g.f := fe2.ne nD
        have Dl : l ≠ D := ne_of_none hl2 nD
        refine lc_it (walk_range (lo := 0) (n := s.length)) (fun j H3 => ∃ m : List Nat, m.length = j ∧ (∀ c ∈ m, c ∈ s) ∧ H3 D = some (.lst ((ones m).map V.str)) ∧ H3 l = some (.lst (txs rows)) ∧ FeedAt K H3 g (n + 1 + 4 * i + j) ∧ Kept g.f H H3)
          ⟨[], rfl, (fun c h => by cases h), upd_same, by rw [upd_ne Dl]; exact hl2, fe2.same (same_new nD), kp2.trans (Kept.of (same_new nD))⟩ (fun _ _ _ _ => trivial) ?_ ?_
        · rintro j x H3 H3' hj ⟨m, mi, hm, hD, hlk, fe3, kp3⟩ ⟨rfl, rfl⟩
          refine ⟨rfl, yes_kept ?_⟩
          refine ⟨.ref g.f, rfl, .str (tx s), rfl, g, .str (tx s), n + 1 + 4 * i + j, rfl, fe3, by omega, .inl ⟨s, rfl, by omega, by omega, fun c H4 hc fe4 kp4 => ?_⟩⟩
          have hD4 := kp4 _ _ Dg hD
          refine ⟨_, hD4, ?_, m ++ [c], ?_, ?_, ?_, ?_, ?_, ?_⟩
          · rw [List.length_map, ones_len]
            exact small1000 (by omega)
          · rw [List.length_append, mi]
            rfl
          · intro d hd
            rcases List.mem_append.mp hd with hd | hd
            · exact hm d hd
            · rw [List.mem_singleton.mp hd]
              exact hc
          · rw [upd_same, ones_snoc, List.map_append]
            rfl
          · rw [upd_ne Dl]
            exact kp4 _ _ lg hlk
          · exact FeedAt.put fe2 nD fe4
          · exact Kept.new (kp3.trans kp4) (Kept.none kp2 Dg nD)
        · rintro H3 ⟨m, mi, hm, hD, hlk, fe3, kp3⟩
          refine ⟨tx [], D, ones m, tx_nil ▸ rfl, rfl, .inl (SqL.of hD), ?_, ?_⟩
          · rw [ones_sum, ones_len, tx_len]
            simp
            omega
          · rw [ones_join]
            obtain ⟨few, all⟩ := app m H3 ⟨mi, hm⟩ hlk
            refine ⟨.ref l, rfl, .inl ⟨rfl, _, SqL.of hlk⟩, .str (tx m), rfl, l, _, _, rfl, rfl, hlk, few, rows ++ [m], _, _, _, _, rfl, by rw [upd_same, txs_snoc], by rw [List.length_append, rl]; rfl, all, FeedAt.put fe nl (fe3.le (by omega)), Kept.new kp3 nl⟩
    · rintro σ H2 ⟨rows, v4, v5, v6, v7, rfl, hl2, rl, each, fe2, kp2⟩
      refine ⟨.ref l, rfl, l, txs rows, rfl, .inl ⟨SqL.of hl2, fun T nT => ?_⟩⟩
      exact q rows T _ rl each (Kept.none kp2 (fe2.ne nT) nT) upd_same ((fe2.le (by omega)).same (same_new nT)) (kp2.trans (Kept.of (same_new nT)))
end
end K23
set_option Elab.async false
set_option linter.all false
set_option maxRecDepth 100000
set_option maxHeartbeats 2000000
/-! Comprehensions whose items draw. -/
namespace Bp
open PySem PySem.Spec PyProof.Rows L2
variable {K : PySem.W.Frag}
/-- a comprehension whose items draw -/
theorem lc_feed {α : Type} {J : It} {n : Nat} {G : Hp → Prop} {Y : Nat → Hp → V → Hp → Prop} {gt : TG} {te : TE} {vs : List Nat} {σ : L2.St} {H1 : Hp} {D : Addr} {Qd : Hp → Prop}
    (w : Walk J n G Y) (g : Fed) (n0 c : Nat) (enc : α → V) (R : List α → Prop) (r0 : R []) (few : n ≤ 1000) (fe : FeedAt K H1 g n0) (nD : H1 D = none) (hG : ∀ H, Kept g.f H1 H → FeedAt K H g (n0 + c * n) → G H)
    (step : ∀ i x H H' (l : List α) (Qy : V → Hp → Prop), i < n → l.length = i → R l → Kept g.f H1 H → FeedAt K H g (n0 + c * i) → Y i H x H' → (∀ a H3, R (l ++ [a]) → Kept g.f H H3 → FeedAt K H3 g (n0 + c * (i + 1)) → Qy (enc a) H3) →
      gt x (wipe σ vs) H' fun σ2 H2 => wipe σ2 vs = wipe σ vs ∧ te σ2 H2 Qy)
    (done : ∀ H l, l.length = n → R l → Kept g.f H1 H → FeedAt K H g (n0 + c * n) → H D = some (.lst (l.map enc)) → Qd H)
    (mono : ∀ (v : V) (σ0 : L2.St) (H0 : Hp) (A B : L2.St → Hp → Prop), (∀ s h, A s h → B s h) → gt v σ0 H0 A → gt v σ0 H0 B) :
    ∃ W : Nat → Nat → Hp → Prop, (∃ m, W 0 m (upd H1 D (.lst []))) ∧ ∀ i m H, W i m H →
      (J.stop i H ∧ Qd H) ∨ (J.go i H ∧ ∃ Nx : Hp → Prop, (∀ H', Nx H' → ∃ m', m' < m ∧ W (i + 1) m' H') ∧ ∀ x H', J.yld i H x H' → gt x (wipe σ vs) H' fun σ2 H2 => wipe σ2 vs = wipe σ vs ∧ tYes σ2 H2 fun b H3 =>
        if b = true then te σ2 H3 fun y H4 => ∃ acc, H4 D = some (.lst acc) ∧ acc.length < sizeLine ∧ Nx (upd H4 D (.lst (acc ++ [y]))) else Nx H3) := by
  have nf := fe.ne nD
  refine lc_it w (fun i H => ∃ l : List α, l.length = i ∧ R l ∧ Kept g.f H1 H ∧ FeedAt K H g (n0 + c * i) ∧ H D = some (.lst (l.map enc))) ⟨[], rfl, r0, Kept.of (same_new nD), fe.same (same_new nD), upd_same⟩ ?_ ?_ ?_
  · rintro i H hi ⟨l, _, _, kp, f, _⟩
    exact hG H kp (f.le (Nat.add_le_add_left (Nat.mul_le_mul_left c hi) n0))
  · rintro i x H H' hi ⟨l, hl, hr, kp, f, hD⟩ y
    refine mono _ _ _ _ _ (fun s h z => ⟨z.1, yes_kept z.2⟩) (step i x H H' l _ hi hl hr kp f y fun a H3 r3 k3 f3 => ?_)
    refine ⟨l.map enc, k3 _ _ nf hD, ?_, l ++ [a], by rw [List.length_append, hl]; rfl, r3, ?_, fe.put nD f3, ?_⟩
    · rw [List.length_map]
      exact small1000 (by omega)
    · exact fun b o nb e => by
        rw [upd_ne (ne_of_none e nD)]
        exact k3 _ _ nb (kp b o nb e)
    · rw [upd_same, List.map_append]
      rfl
  · rintro H ⟨l, hl, hr, kp, f, hD⟩
    exact done H l hl hr kp f hD
end Bp
set_option Elab.async false
set_option linter.all false
set_option maxRecDepth 100000
set_option maxHeartbeats 2000000
set_option exponentiation.threshold 400
/-! The law's own hand: works as they are drawn. -/
namespace K23
open PySem PySem.Spec PyProof.Rows L2 Bp
def RBand : Hp → V → BandL → Prop := fun H v b => ∃ t, v = .ref t ∧ H t = some (.tup [.str (tx b.name), .int b.long, .int b.pace])
theorem RBand.kn {H H' : Hp} (k : Kn H H') : ∀ v b, RBand H v b → RBand H' v b := fun v b ⟨t, e, h⟩ => ⟨t, e, k _ _ (by intro xs z; cases z) h⟩
def RStamp : Hp → V → PressL → Prop := fun H v r => ∃ t a b tb, v = .ref t ∧ H t = some (.tup [.ref a, .ref b, .ref tb, .str (tx r.rhythm)]) ∧ PressAt H a b tb r
theorem RStamp.kn {H H' : Hp} (k : Kn H H') : ∀ v r, RStamp H v r → RStamp H' v r := fun v r ⟨t, a, b, tb, e, h, p⟩ => ⟨t, a, b, tb, e, k _ _ (by intro xs z; cases z) h, p.kn k⟩
/-- all that is no list and no dict stays -/
def Kt (H H' : Hp) : Prop := ∀ b o, (∀ xs, o ≠ HO.lst xs) → (∀ kvs, o ≠ HO.dK kvs) → H b = some o → H' b = some o
theorem Kt.of {H H' : Hp} (s : Same H H') : Kt H H' := fun b o _ _ e => s b o e
theorem Kt.kn {H H' : Hp} (s : Kn H H') : Kt H H' := fun b o n _ e => s b o n e
theorem Kt.trans {H H1 H2 : Hp} (a : Kt H H1) (b : Kt H1 H2) : Kt H H2 := fun c o n m e => b c o n m (a c o n m e)
theorem Kt.kept {K : PySem.W.Frag} {H H' : Hp} {g : Fed} {n : Nat} (f : FeedAt K H g n) (k : Kept g.f H H') : Kt H H' := fun b o _ m e => by
  obtain ⟨kvs, ek⟩ := f.dict
  refine k b o (fun z => ?_) e
  rw [z, ek] at e
  exact m _ (Option.some.inj e).symm
theorem RBand.kt {H H' : Hp} (k : Kt H H') : ∀ v b, RBand H v b → RBand H' v b := fun v b ⟨t, e, h⟩ => ⟨t, e, k _ _ (by intro xs z; cases z) (by intro xs z; cases z) h⟩
theorem IsPlace.kt {H H' : Hp} (k : Kt H H') {t : Addr} {s : PlaceL} (h : IsPlace H t s) : IsPlace H' t s := k _ _ (by intro xs z; cases z) (by intro xs z; cases z) h
theorem RPlace.kt {H H' : Hp} (k : Kt H H') : ∀ v s, RPlace H v s → RPlace H' v s := fun v s ⟨t, e, h⟩ => ⟨t, e, h.kt k⟩
theorem PressAt.kt {H H' : Hp} {a b t : Addr} {r : PressL} (h : PressAt H a b t r) (k : Kt H H') : PressAt H' a b t r := ⟨h.ab.kt k, h.be.kt k, k _ _ (by intro xs z; cases z) (by intro xs z; cases z) h.tb⟩
theorem RStamp.kt {H H' : Hp} (k : Kt H H') : ∀ v r, RStamp H v r → RStamp H' v r := fun v r ⟨t, a, b, tb, e, h, p⟩ => ⟨t, a, b, tb, e, k _ _ (by intro xs z; cases z) (by intro xs z; cases z) h, p.kt k⟩
theorem Each.append {α : Type} {R : Hp → V → α → Prop} {H : Hp} {l m : List V} {xs ys : List α} (h1 : Each R H l xs) (h2 : Each R H m ys) : Each R H (l ++ m) (xs ++ ys) := by
  refine ⟨by rw [List.length_append, List.length_append, h1.1, h2.1], fun i v x e1 e2 => ?_⟩
  rcases Nat.lt_or_ge i l.length with lt | ge
  · rw [List.getElem?_append_left lt] at e1
    rw [List.getElem?_append_left (by rw [← h1.1]; exact lt)] at e2
    exact h1.2 i v x e1 e2
  · rw [List.getElem?_append_right ge] at e1
    rw [List.getElem?_append_right (by rw [← h1.1]; exact ge), ← h1.1] at e2
    exact h2.2 _ v x e1 e2
theorem kept_put {f D : Addr} {H0 H : Hp} {o : HO} (k : Kept f H0 H) (n : H0 D = none) : Kept f H0 (upd H D o) := fun b u nb e => by
  rw [upd_ne (ne_of_none e n)]
  exact k b u nb e
theorem sum_snoc (bs : List BandL) (b : BandL) : ((bs ++ [b]).map (·.long)).sum = (bs.map (·.long)).sum + b.long := by
  rw [List.map_append, List.sum_append]
  simp
/-- what the first loop keeps -/
structure Half (K : PySem.W.Frag) (H0 : Hp) (g : Fed) (tz ln lb lq lp : Addr) (zs : List V) (ns : List (List Nat)) (i N : Nat) (H : Hp) (bs : List BandL) : Prop where
  len : bs.length = i
  nms : bs.map (·.name) = ns.take i
  ok : ∀ b ∈ bs, b.Ok
  room : (bs.map (·.long)).sum + (ns.length - i) ≤ 40
  hb : ∃ l, H lb = some (.lst l) ∧ Each RBand H l bs
  hq : ∃ q, H lq = some (.lst q) ∧ Places H q (placesL bs)
  hp : H lp = some (.lst [])
  hn : H ln = some (.lst (txs ns))
  hz : H tz = some (.tup zs)
  qb : lq ≠ lb
  qp : lq ≠ lp
  fe : FeedAt K H g N
  kp : Kept g.f H0 H
theorem w_sb : ¬ (("signs" : Str) = "bands") := by decide +kernel
theorem w_sp : ¬ (("signs" : Str) = "presses") := by decide +kernel
theorem w_bp : ¬ (("bands" : Str) = "presses") := by decide +kernel
theorem w_sl : ¬ (("signs" : Str) = "places") := by decide +kernel
theorem w_bl : ¬ (("bands" : Str) = "places") := by decide +kernel
theorem w_pl : ¬ (("presses" : Str) = "places") := by decide +kernel
theorem raw_merge (s : List Nat) (lb lp lq : Addr) : mergeK [] ([(.inr "signs", .str (tx s)), (.inr "bands", .ref lb), (.inr "presses", .ref lp), (.inr "places", .ref lq)] : List (Key × V)) = [(.inr "signs", .str (tx s)), (.inr "bands", .ref lb), (.inr "presses", .ref lp), (.inr "places", .ref lq)] := by
  have e1 : putK ([] : List (Key × V)) (.inr "signs") (.str (tx s)) = [(.inr "signs", .str (tx s))] := putK_new _ rfl
  have e2 : putK ([(.inr "signs", .str (tx s))] : List (Key × V)) (.inr "bands") (.ref lb) = [(.inr "signs", .str (tx s)), (.inr "bands", .ref lb)] := putK_new _ (by rw [valV_neg (inr_ne w_sb)]; rfl)
  have e3 : putK ([(.inr "signs", .str (tx s)), (.inr "bands", .ref lb)] : List (Key × V)) (.inr "presses") (.ref lp) = [(.inr "signs", .str (tx s)), (.inr "bands", .ref lb), (.inr "presses", .ref lp)] := putK_new _ (by rw [valV_neg (inr_ne w_sp), valV_neg (inr_ne w_bp)]; rfl)
  have e4 : putK ([(.inr "signs", .str (tx s)), (.inr "bands", .ref lb), (.inr "presses", .ref lp)] : List (Key × V)) (.inr "places") (.ref lq) = [(.inr "signs", .str (tx s)), (.inr "bands", .ref lb), (.inr "presses", .ref lp), (.inr "places", .ref lq)] := putK_new _ (by rw [valV_neg (inr_ne w_sl), valV_neg (inr_ne w_bl), valV_neg (inr_ne w_pl)]; rfl)
  show putK (putK (putK (putK ([] : List (Key × V)) (.inr "signs") (.str (tx s))) (.inr "bands") (.ref lb)) (.inr "presses") (.ref lp)) (.inr "places") (.ref lq) = _
  rw [e1, e2, e3, e4]
section
variable {P : Program} {w : World} {K : PySem.W.Frag} {mg : Str → Option Value} {base : Heap}
abbrev NsR : List Str := ["_law_feed_here", "_law_sizes", "_law_signs_here", "_law_names_here", "_law_bands", "_law_places", "_law_presses", "_law_at", "_law_name", "_law_wide", "_law_far", "_law_goes", "_law_k", "_law_bar", "_law_upper", "_law_turn"]
theorem scRaw : FnScope NsR ["_law_feed_here", "_law_sizes"] (defScope s_law_raw) := ⟨rfl, rfl, rfl, by decide +kernel, rfl, by decide +kernel, by decide +kernel⟩
/-- the five sizes -/
structure Sizes (z0 z1 z2 z3 z4 : Nat) : Prop where
  a0 : 2 ≤ z0 ∧ z0 ≤ 4
  a1 : 1 ≤ z1 ∧ z1 ≤ 6
  a2 : 1 ≤ z2 ∧ z2 ≤ 12
  a3 : z3 ≤ 8
  a4 : 1 ≤ z4 ∧ z4 ≤ 6
/-- a raw work stands at rd -/
def IsRaw (H : Hp) (rd : Addr) (k : WorkL) : Prop := ∃ lb lp lq l m q, H rd = some (.dK [(.inr "signs", .str (tx k.signs)), (.inr "bands", .ref lb), (.inr "presses", .ref lp), (.inr "places", .ref lq)]) ∧
  H lb = some (.lst l) ∧ Each RBand H l k.bands ∧ H lp = some (.lst m) ∧ Each RStamp H m k.presses ∧ H lq = some (.lst q) ∧ Places H q k.places
def sp_raw (K : PySem.W.Frag) : Sp := fun vs H Q _ => ∃ (g : Fed) (tz : Addr) (z0 z1 z2 z3 z4 n : Nat), vs = [.ref g.f, .ref tz] ∧ H tz = some (.tup [.int z0, .int z1, .int z2, .int z3, .int z4]) ∧ Sizes z0 z1 z2 z3 z4 ∧ FeedAt K H g n ∧ n ≤ 2 ^ 28 ∧
  ∀ k rd H', WorkL.Ok k → H rd = none → IsRaw H' rd k → FeedAt K H' g (n + 400) → Kept g.f H H' → Q (.ref rd) H'
theorem ok_raw {f fD fP fS fN fT : Addr} {fd fdD fdP fdS fdN fdT : FuncData} {k : Nat} (B : Blt mg) (mm : mg "min" = none) (F : Fun K "_law_raw" "_law_raw" s_law_raw f fd) (FD : Fun K "_law_draw" "_law_draw" s_law_draw fD fdD) (bD : Binds K fdD ["_law_feed_here", "_law_many"] []) (gD : mg "_law_draw" = some (.ref fD))
    (GD : Drw P w K mg base k fD fdD) (FP : Fun K "_law_pick" "_law_pick" s_law_pick fP fdP) (bP : Binds K fdP ["_law_feed_here", "_law_some"] []) (gP : mg "_law_pick" = some (.ref fP)) (GP : Pck P w K mg base k fP fdP)
    (FS : Fun K "_law_signs" "_law_signs" s_law_signs fS fdS) (bS : Binds K fdS ["_law_feed_here", "_law_many"] []) (gS : mg "_law_signs" = some (.ref fS)) (GS : FnOk P w K mg base CX0 k fS fdS ["_law_feed_here", "_law_many"] (spSigns K))
    (FN : Fun K "_law_names" "_law_names" s_law_names fN fdN) (bN : Binds K fdN ["_law_feed_here", "_law_many"] []) (gN : mg "_law_names" = some (.ref fN)) (GN : FnOk P w K mg base CX0 k fN fdN ["_law_feed_here", "_law_many"] (sp_names K))
    (FT : Fun K "_law_table" "_law_table" s_law_table fT fdT) (bT : Binds K fdT ["_law_feed_here", "_law_signs_here"] []) (gT : mg "_law_table" = some (.ref fT)) (GT : FnOk P w K mg base CX0 k fT fdT ["_law_feed_here", "_law_signs_here"] (sp_table K)) :
    FnOk P w K mg base CX0 (k + 1) f fd ["_law_feed_here", "_law_sizes"] (sp_raw K) := by
  refine F.ok scRaw (fun vs H Q E h => ?_) (fun cdv A outer sh H vs Q E hr h => ?_)
  · obtain ⟨g, tz, z0, z1, z2, z3, z4, n, rfl, _⟩ := h
    rfl
  · obtain ⟨g, tz, z0, z1, z2, z3, z4, n, rfl, htz, sz, fe, hn, q⟩ := h
    refine ⟨_, pss_cons (ps_par (i := 2) (j := 3) rfl scRaw.nd rfl rfl (by decide) rfl rfl (pa_cons (pe_call GS hr rfl gS FS.kp bS .nil pass0 (pa_cons (pv 0) (pa_cons (pe_op op_add pe_int (pe_call GD hr rfl gD FD.kp bD .nil pass0 (pa_cons (pv 0) (pa_cons (pe_op op_sub (pe_ix ix_tup (pv 1) pe_int (fun _ _ => rfl)) pe_int) pa_nil)))) pa_nil)))
          (pa_cons (pe_call GN hr rfl gN FN.kp bN .nil pass0 (pa_cons (pv 0) (pa_cons (pe_op op_add pe_int (pe_call GD hr rfl gD FD.kp bD .nil pass0 (pa_cons (pv 0) (pa_cons (pe_ix ix_tup (pv 1) pe_int (fun _ _ => rfl)) pa_nil)))) pa_nil))) pa_nil)) (by rfl))
      (pss_cons (ps_par3 (i := 4) (j := 5) (l := 6) rfl scRaw.nd rfl rfl rfl (by decide) (by decide) (by decide) rfl rfl rfl (pa_cons (pe_lst pa_nil) (pa_cons (pe_lst pa_nil) (pa_cons (pe_lst pa_nil) pa_nil))) (by rfl))
      (pss_cons (ps_for PassesOwn.never rfl (pi_enum (by rfl) B.enu (pa_cons (pv 3) pa_nil)) (pg_tup rfl (pgs_cons (pg_name (i := 7) scRaw.nd rfl (Or.inl rfl)) (pgs_cons (pg_name (i := 8) scRaw.nd rfl (Or.inr rfl)) pgs_nil)))
        (pss_cons (ps_set (i := 9) scRaw.nd rfl (.inl rfl) (pe_callB (call_min2 rfl) (by rfl) mm (by decide +kernel) (pa_cons (pe_op op_add pe_int (pe_call GD hr rfl gD FD.kp bD .nil pass0 (pa_cons (pv 0) (pa_cons (pe_ix ix_tup (pv 1) pe_int (fun _ _ => rfl)) pa_nil))))
            (pa_cons (pe_op op_sub (pe_op op_sub (pe_op op_add pe_int (pv 7)) (pe_callB call_len (by rfl) B.len PySem.boot_len (pa_cons (pv 5) pa_nil))) (pe_callB call_len (by rfl) B.len PySem.boot_len (pa_cons (pv 3) pa_nil))) pa_nil))))
        (pss_cons (ps_set (i := 10) scRaw.nd rfl (.inl rfl) (pe_op op_sub (pe_op op_pow pe_int pe_int) (pe_call GD hr rfl gD FD.kp bD .nil pass0 (pa_cons (pv 0) (pa_cons pe_int pa_nil)))))
        (pss_cons (ps_set (i := 11) scRaw.nd rfl (.inl rfl) (pe_call GP hr rfl gP FP.kp bP .nil pass0 (pa_cons (pv 0) (pa_cons (pe_lst (pa_cons pe_int (pa_cons pe_int (pa_cons pe_int (pa_cons (pe_un un_neg pe_int) (pa_cons pe_int (pa_cons (pv 9) (pa_cons (pe_op op_add (pv 9) pe_int) (pa_cons (pe_un un_neg pe_int) (pa_cons (pv 10) (pa_cons (pe_op op_sub pe_int (pv 10)) pa_nil))))))))))) pa_nil))))
        (pss_cons (ps_expr (pe_bm PySem.F.plainAttrs_list PySem.F.slot_list_append PySem.F.type_list_append mt_append (pv 4) (pa_cons (pe_tup (pa_cons (pv 8) (pa_cons (pv 9) (pa_cons (pv 11) pa_nil)))) pa_nil)))
        (pss_one (ps_set (i := 5) scRaw.nd rfl (.inl rfl) (pe_op op_cat (pv 5) (pe_lc (own := [("_law_k", 12)]) (g := gName 12) (tt := tYes) rfl scRaw.nd (pi_range1 (by rfl) B.rng (pa_cons (pv 9) pa_nil)) (blkOk_by (own := [("_law_k", 12)]) (N := NsR) (sc := defScope s_law_raw) (by decide +kernel))
          (fun _ _ _ _ _ => pg_name (i := 12) scRaw.nd rfl (Or.inl rfl)) (fun _ _ _ _ _ => pts_nil) (fun _ _ _ _ _ => pe_tup (pa_cons (pv 8) (pa_cons (pv 12) pa_nil))))))))))))
      (pss_cons (ps_for PassesOwn.never rfl (pi_range1 (by rfl) B.rng (pa_cons (pe_call GD hr rfl gD FD.kp bD .nil pass0 (pa_cons (pv 0) (pa_cons (pe_op op_add (pe_ix ix_tup (pv 1) pe_int (fun _ _ => rfl)) pe_int) pa_nil))) pa_nil)) (pg_name (i := 12) scRaw.nd rfl (Or.inl rfl))
        (pss_cons (ps_set (i := 13) scRaw.nd rfl (.inl rfl) (pe_join pe_str (pe_lc (own := [("_law_turn", 15)]) (g := gName 15) (tt := tYes) rfl scRaw.nd (pi_range1 (by rfl) B.rng (pa_cons (pe_op op_add pe_int (pe_call GD hr rfl gD FD.kp bD .nil pass0 (pa_cons (pv 0) (pa_cons (pe_ix ix_tup (pv 1) pe_int (fun _ _ => rfl)) pa_nil)))) pa_nil))
          (blkOk_by (own := [("_law_turn", 15)]) (N := NsR) (sc := defScope s_law_raw) (by decide +kernel)) (fun _ _ _ _ _ => pg_name (i := 15) scRaw.nd rfl (Or.inl rfl)) (fun _ _ _ _ _ => pts_nil) (fun _ _ _ _ _ => pe_call GP hr rfl gP FP.kp bP .nil pass0 (pa_cons (pv 0) (pa_cons pe_str pa_nil))))))
        (pss_cons (ps_set (i := 14) scRaw.nd rfl (.inl rfl) (pe_call GP hr rfl gP FP.kp bP .nil pass0 (pa_cons (pv 0) (pa_cons (pv 5) pa_nil))))
        (pss_one (ps_expr (pe_bm PySem.F.plainAttrs_list PySem.F.slot_list_append PySem.F.type_list_append mt_append (pv 6) (pa_cons (pe_tup (pa_cons (pv 14) (pa_cons (pe_call GP hr rfl gP FP.kp bP .nil pass0 (pa_cons (pv 0) (pa_cons (pv 5) pa_nil))) (pa_cons (pe_call GT hr rfl gT FT.kp bT .nil pass0 (pa_cons (pv 0) (pa_cons (pv 2) pa_nil))) (pa_cons (pv 13) pa_nil))))) pa_nil)))))))
      (pss_one (ps_ret (pe_disp (pps_cons pe_str (pv 2) (pps_cons pe_str (pv 4) (pps_cons pe_str (pv 6) (pps_cons pe_str (pv 5) pps_nil)))) (by rfl) (by rfl) (fun z => by cases z) (by decide))))))), ?_⟩
    have b0 := sz.a0
    have b1 := sz.a1
    have b2 := sz.a2
    have b3 := sz.a3
    have b4 := sz.a4
    have small : ∀ z : Nat, z ≤ 100 → ((z : Nat) : Int).natAbs < 2 ^ 300 := fun z hz => Nat.lt_of_le_of_lt (show ((z : Nat) : Int).natAbs ≤ 100 by omega) (by decide)
    have small2 : ∀ z : Int, 0 ≤ z → z ≤ 100 → z.natAbs < 2 ^ 300 := fun z h0 h1 => Nat.lt_of_le_of_lt (show z.natAbs ≤ 100 by omega) (by decide)
    obtain ⟨kvs0, ek0⟩ := fe.dict
    have ztf : tz ≠ g.f := ne_of htz ek0 (by intro z; cases z)
    -- signs and names
    refine ⟨.ref g.f, rfl, .ref g.f, rfl, .ref tz, rfl, tz, _, 0, _, rfl, rfl, SqT.of htz, atI_nat (j := 0) rfl, z0, 1, rfl, rfl, g, (z0 : Int) - 1, n, rfl, fe, by omega, by omega, small2 _ (by omega) (by omega), fun d0 H1 d00 d01 fe1 kp1 => ⟨2, d0, rfl, rfl, ?_⟩⟩
    obtain ⟨m0, rfl⟩ := Int.eq_ofNat_of_zero_le d00
    refine ⟨g, 2 + m0, n + 1, rfl, by omega, by omega, fe1, by omega, fun sg H2 hsg fe2 kp2 => ?_⟩
    have htz2 := kp2 _ _ ztf (kp1 _ _ ztf htz)
    refine ⟨.ref g.f, rfl, .ref g.f, rfl, .ref tz, rfl, tz, _, 1, _, rfl, rfl, SqT.of htz2, atI_nat (j := 1) rfl, g, z1, n + 1 + 2, rfl, fe2, by omega, by omega, small _ (by omega), fun d1 H3 d10 d11 fe3 kp3 => ⟨1, d1, rfl, rfl, ?_⟩⟩
    obtain ⟨m1, rfl⟩ := Int.eq_ofNat_of_zero_le d10
    refine ⟨g, 1 + m1, n + 1 + 2 + 1, rfl, by omega, fe3, by omega, fun ns ln H4 nok nl4 hln fe4 kp4 => ?_⟩
    have htz4 := kp4 _ _ ztf (kp3 _ _ ztf htz2)
    have kp04 := kp1.trans (kp2.trans (kp3.trans kp4))
    refine ⟨_, _, rfl, ?_⟩
    -- three empty lists
    refine ⟨(by show 0 ≤ sizeLine; decide), fun lb nb => ?_⟩
    have s5 := same_new (o := .lst []) nb
    refine ⟨(by show 0 ≤ sizeLine; decide), fun lq nq => ?_⟩
    have s6 := same_new (o := .lst []) nq
    refine ⟨(by show 0 ≤ sizeLine; decide), fun lp np => ?_⟩
    have s7 := same_new (o := .lst []) np
    have hlb5 : (upd H4 lb (.lst [])) lb = some (.lst []) := upd_same
    have hlq6 : (upd (upd H4 lb (.lst [])) lq (.lst [])) lq = some (.lst []) := upd_same
    have qb : lq ≠ lb := fun z => by
      rw [z, hlb5] at nq
      cases nq
    have pb : lp ≠ lb := fun z => by
      rw [z, s6 _ _ hlb5] at np
      cases np
    have pq : lp ≠ lq := fun z => by
      rw [z, hlq6] at np
      cases np
    have s47 := s5.trans (s6.trans s7)
    have fe7 := fe4.same s47
    have n4 : ∀ {D : Addr}, H4 D = none → H D = none := fun {D} nD => by
      cases e : H D with
      | none => rfl
      | some o =>
        by_cases c : D = g.f
        · obtain ⟨kv, ek⟩ := fe4.dict
          rw [c, ek] at nD
          cases nD
        · rw [kp04 _ _ c e] at nD
          cases nD
    have nb0 : H lb = none := n4 nb
    have np0 : H lp = none := n4 (by rw [upd_ne pq, upd_ne pb] at np; exact np)
    have nl := nok.len
    have hnb : ln ≠ lb := ne_of_none hln nb
    have hnp : ln ≠ lp := ne_of_none hln (by rw [upd_ne pq, upd_ne pb] at np; exact np)
    refine ⟨_, _, _, rfl, ?_⟩
    refine ⟨.ref ln, rfl, ln, txs ns, rfl, SqL.of (s47 _ _ hln), ?_⟩
    refine for_it (walk_enum (K := K) (a := ln) (xs := txs ns)) (fun i σ H5 => ∃ (lq : Addr) (bs : List BandL) (v7 v8 v9 v10 v11 : Option V), σ = [some (.ref g.f), some (.ref tz), some (.str (tx sg)), some (.ref ln), some (.ref lb), some (.ref lq), some (.ref lp), v7, v8, v9, v10, v11, none, none, none, none] ∧
        Half K H g tz ln lb lq lp [.int z0, .int z1, .int z2, .int z3, .int z4] ns i (n + 30 + 3 * i) H5 bs) ⟨lq, [], none, none, none, none, none, rfl, ?_⟩ (fun i σ H5 _ z => ?_) ?_ ?_
    · exact ⟨rfl, rfl, by simp, by simp; omega, ⟨[], s7 _ _ (s6 _ _ hlb5), Each.nil⟩, ⟨[], s7 _ _ hlq6, Each.nil⟩, upd_same, s47 _ _ hln, s47 _ _ htz4, qb, fun z => pq z.symm, fe7.le (by omega), kp04.trans (Kept.of s47)⟩
    · obtain ⟨lq, bs, _, _, _, _, _, _, hf⟩ := z
      exact SqL.of hf.hn
    · rintro i x σ H5 H5' hi ⟨lq, bs, v7, v8, v9, v10, v11, rfl, hf⟩ ⟨T, y1, y2, rfl, nT, rfl, e1, e2⟩
      have i' : i < ns.length := by rw [← txs_len ns]; exact hi
      cases (Option.some.inj e1)
      have en : ns[i]? = some ns[i] := List.getElem?_eq_getElem i'
      have nmi := nok.each _ (List.getElem_mem i')
      have ndn := nok.nd
      have em := txs_get en
      have e3 : (txs ns)[i]? = some y2 := e2
      rw [em] at e3
      cases e3
      obtain ⟨l, hl, el⟩ := hf.hb
      obtain ⟨qs, hqs, eq⟩ := hf.hq
      have room := hf.room
      have bl := hf.len
      have sT := same_new (o := .tup [.int (i : Int), .str (tx ns[i])]) nT
      refine ⟨T, _, rfl, SqT.of upd_same, rfl, _, _, rfl, _, _, rfl, rfl, ?_⟩
      have fe5 := hf.fe.same sT
      have pl : qs.length = (bs.map (·.long)).sum := by rw [eq.1, placesL_len]
      refine ⟨.ref g.f, rfl, .ref tz, rfl, tz, _, 2, _, rfl, rfl, SqT.of (sT _ _ hf.hz), atI_nat (j := 2) rfl, g, z2, n + 30 + 3 * i, rfl, fe5, by omega, by omega, small _ (by omega), fun d2 H6 d20 d21 fe6 kp6 => ⟨1, d2, rfl, rfl, ?_⟩⟩
      obtain ⟨kvs5, ek5⟩ := fe5.dict
      have lne : ∀ {D : Addr} {xs : List V}, H5 D = some (.lst xs) → D ≠ g.f := fun {D xs} h => ne_of (sT _ _ h) ek5 (by intro z; cases z)
      have tne : ∀ {D : Addr} {xs : List V}, H5 D = some (.tup xs) → D ≠ g.f := fun {D xs} h => ne_of (sT _ _ h) ek5 (by intro z; cases z)
      have k56 : Kept g.f H5 H6 := (Kept.of sT).trans kp6
      have hq6 := k56 _ _ (lne hqs) hqs
      have hn6 := k56 _ _ (lne hf.hn) hf.hn
      refine ⟨.int (i : Int), rfl, 41, i, rfl, rfl, .ref lq, rfl, .ref lq, qs.length, rfl, .inl ⟨_, SqL.of hq6, rfl⟩, _, _, rfl, rfl, .ref ln, rfl, .ref ln, ns.length, rfl, .inl ⟨_, SqL.of hn6, (txs_len ns).symm⟩, _, _, rfl, rfl, _, _, rfl, ?_⟩
      obtain ⟨wide, ew, w1, w12, wr⟩ : ∃ wide : Nat, (if 41 + (i : Int) - (qs.length : Int) - (ns.length : Int) < 1 + d2 then 41 + (i : Int) - (qs.length : Int) - (ns.length : Int) else 1 + d2) = (wide : Int) ∧ 1 ≤ wide ∧ wide ≤ 12 ∧ (bs.map (·.long)).sum + wide + (ns.length - (i + 1)) ≤ 40 := by
        split
        · exact ⟨(41 + (i : Int) - (qs.length : Int) - (ns.length : Int)).toNat, by omega, by omega, by omega, by omega⟩
        · exact ⟨(1 + d2).toNat, by omega, by omega, by omega, by omega⟩
      rw [ew]
      refine ⟨10, 12, rfl, rfl, ⟨by decide, by decide, by decide⟩, .ref g.f, rfl, g, 12, n + 30 + 3 * i + 1, rfl, fe6, by omega, by decide, by decide, fun d3 H7 d30 d31 fe7 kp7 => ⟨_, _, rfl, rfl, ?_⟩⟩
      have e12 : (10 : Int) ^ (12 : Int).toNat = 1000000000000 := by decide
      rw [e12]
      have f0 : 0 ≤ 1000000000000 - d3 := by omega
      have f1 : 1000000000000 - d3 ≤ 10 ^ 12 := by omega
      refine ⟨.ref g.f, rfl, 1, rfl, .int wide, rfl, .int wide, rfl, wide, 1, rfl, rfl, 3, rfl, .int (1000000000000 - d3), rfl, .int (1000000000000 - d3), rfl, 0, 1000000000000 - d3, rfl, rfl, (by show 10 ≤ sizeLine; decide), fun l2 nl2 => ?_⟩
      refine ⟨g, .ref l2, n + 30 + 3 * i + 1 + 1, rfl, fe7.same (same_new nl2), by omega, .inr ⟨l2, _, rfl, SqL.of upd_same, (by show 0 < 10; decide), (by show 10 ≤ 1000; decide), fun x H8 hx fe8 kp8 => ?_⟩⟩
      obtain ⟨goes, rfl, go0, go1⟩ : ∃ goes : Int, x = .int goes ∧ -(10 ^ 12) ≤ goes ∧ goes ≤ 10 ^ 12 := by
        rcases List.mem_cons.mp hx with rfl | hx
        · exact ⟨_, rfl, by decide, by decide⟩
        rcases List.mem_cons.mp hx with rfl | hx
        · exact ⟨_, rfl, by decide, by decide⟩
        rcases List.mem_cons.mp hx with rfl | hx
        · exact ⟨_, rfl, by decide, by decide⟩
        rcases List.mem_cons.mp hx with rfl | hx
        · exact ⟨_, rfl, by decide, by decide⟩
        rcases List.mem_cons.mp hx with rfl | hx
        · exact ⟨_, rfl, by decide, by decide⟩
        rcases List.mem_cons.mp hx with rfl | hx
        · exact ⟨_, rfl, by omega, by omega⟩
        rcases List.mem_cons.mp hx with rfl | hx
        · exact ⟨_, rfl, by omega, by omega⟩
        rcases List.mem_cons.mp hx with rfl | hx
        · exact ⟨_, rfl, by decide, by decide⟩
        rcases List.mem_cons.mp hx with rfl | hx
        · exact ⟨_, rfl, by omega, by omega⟩
        rcases List.mem_cons.mp hx with rfl | hx
        · exact ⟨_, rfl, by omega, by omega⟩
        cases hx
      clear hx
      have k58 : Kept g.f H5 H8 := k56.trans (kp7.trans ((Kept.of (same_new nl2)).trans kp8))
      have kt58 : Kt H5 H8 := Kt.kept hf.fe k58
      have hb8 := k58 _ _ (lne hl) hl
      refine ⟨.ref lb, rfl, .inl ⟨rfl, _, SqL.of hb8⟩, .str (tx ns[i]), rfl, .int wide, rfl, .int goes, rfl, (by show 3 ≤ sizeLine; decide), fun t nt => ?_⟩
      have st := same_new (o := .tup [.str (tx ns[i]), .int (wide : Int), .int goes]) nt
      have few6 : l.length ≤ 6 := by rw [el.1, bl]; omega
      refine ⟨lb, _, _, rfl, rfl, st _ _ hb8, small1000 (by omega), ?_⟩
      let b : BandL := ⟨ns[i], wide, goes⟩
      generalize hH9 : upd H8 t (.tup [.str (tx ns[i]), .int (wide : Int), .int goes]) = H9 at *
      have rb : RBand H9 (.ref t) b := ⟨t, rfl, by rw [← hH9]; exact upd_same⟩
      have fe9 := fe8.same st
      have k59 : Kept g.f H5 H9 := k58.trans (Kept.of st)
      have kt59 : Kt H5 H9 := kt58.trans (Kt.of st)
      have hb9 := st _ _ hb8
      have kp9 : Kept g.f H H9 := hf.kp.trans k59
      -- the list of bands has grown
      generalize hHA : upd H9 lb (.lst (l ++ [.ref t])) = HA
      have knA : Kn H9 HA := hHA ▸ Kn.put hb9
      have hbA : HA lb = some (.lst (l ++ [.ref t])) := by rw [← hHA]; exact upd_same
      have neA : ∀ {D : Addr} {o : HO}, D ≠ lb → H9 D = some o → HA D = some o := fun {D o} ne e => by
        rw [← hHA, upd_ne ne]
        exact e
      have feA : FeedAt K HA g (n + 30 + 3 * i + 1 + 1 + 1) := hHA ▸ FeedAt.put fe4 nb fe9
      have kpA : Kept g.f H HA := hHA ▸ kept_put kp9 nb0
      have ktA : Kt H5 HA := kt59.trans (Kt.kn knA)
      have hqA := neA hf.qb (k59 _ _ (lne hqs) hqs)
      refine ⟨.ref lq, rfl, .int wide, rfl, (wide : Int), rfl, by omega, by omega, fun D nD => ?_⟩
      rw [Int.toNat_natCast]
      refine lc_v (walk_range (lo := 0) (n := wide)) (fun _ _ => trivial) (fun j H1 r => Places H1 r (rangeP b j)) (fun _ => Each.nil) (fun j H1 r hj h => ?_) (fun j H1 H2 r kn h => h.imp (RPlace.kn kn)) nD ?_ ?_
      · rw [h.1]
        unfold rangeP
        rw [List.length_map, List.length_range]
        omega
      · rintro j y HB HB' r Qy Qn hj sm hr ⟨rfl, rfl⟩ qy _
        refine ⟨rfl, yes_kept ?_⟩
        refine ⟨.str (tx ns[i]), rfl, .int (0 + (j : Int)), rfl, (by show 2 ≤ sizeLine; decide), fun t2 nt2 => qy _ _ (same_new nt2) ?_⟩
        have e : rangeP b (j + 1) = rangeP b j ++ [⟨ns[i], j⟩] := by
          unfold rangeP
          rw [List.range_succ, List.map_append]
          rfl
        rw [e]
        refine (hr.imp (RPlace.kn (Kn.of (same_new nt2)))).snoc ⟨t2, rfl, ?_⟩
        show (upd _ t2 _) t2 = _
        rw [upd_same, Int.zero_add]
      · intro HB r sm hr hDB
        have hqB := sm _ _ hqA
        have rl : r.length = wide := by
          rw [hr.1]
          unfold rangeP
          rw [List.length_map, List.length_range]
        refine ⟨lq, D, qs, r, rfl, rfl, hqB, hDB, Nat.le_of_lt (small1000 (by omega)), fun p np2 => ?_⟩
        have sp := same_new (o := .lst (qs ++ r)) np2
        have smp := sm.trans sp
        have pb2 : p ≠ lb := fun z => by
          rw [z, sm _ _ hbA] at np2
          cases np2
        have hp5 := k59 _ _ (lne hf.hp) hf.hp
        have hn5 := k59 _ _ (lne hf.hn) hf.hn
        have hz5 := k59 _ _ (tne hf.hz) hf.hz
        have hpA := neA pb hp5
        have pp2 : p ≠ lp := fun z => by
          rw [z, sm _ _ hpA] at np2
          cases np2
        have ztb : tz ≠ lb := ne_of hz5 hb9 (by intro z; cases z)
        refine ⟨p, bs ++ [b], _, _, _, _, _, rfl, ?_⟩
        refine ⟨by rw [List.length_append, bl]; rfl, ?_, ?_, ?_, ⟨_, smp _ _ hbA, ((el.imp (RBand.kt (ktA.trans (Kt.of smp)))).snoc (RBand.kn (knA.trans (Kn.of smp)) _ _ rb))⟩, ⟨_, upd_same, ?_⟩, smp _ _ hpA, smp _ _ (neA hnb hn5), smp _ _ (neA ztb hz5), pb2, pp2, (feA.same smp).le (by omega), kpA.trans (Kept.of smp)⟩
        · rw [List.map_append, hf.nms, List.take_add_one, en]
          rfl
        · intro c hc
          rcases List.mem_append.mp hc with hc | hc
          · exact hf.ok c hc
          · rw [List.mem_singleton.mp hc]
            exact ⟨nmi, w1, w12, go0, go1⟩
        · rw [sum_snoc]
          exact wr
        · rw [placesL_snoc]
          exact Each.append (eq.imp (RPlace.kt (ktA.trans (Kt.of smp)))) (hr.imp (RPlace.kn (Kn.of sp)))
    · rintro σ H5 ⟨lq, bs, v7, v8, v9, v10, v11, rfl, hf⟩
      have tl : (txs ns).length = ns.length := txs_len ns
      rw [tl] at hf
      obtain ⟨l, hl, el⟩ := hf.hb
      obtain ⟨qs, hqs, eq⟩ := hf.hq
      have bl := hf.len
      have nms : bs.map (·.name) = ns := by
        have := hf.nms
        rwa [List.take_length] at this
      have allb : (bs.map (·.long)).sum ≤ 40 := by have := hf.room; omega
      have bok : BandsOk bs := ⟨hf.ok, by omega, by omega, by rw [nms]; exact nok.nd, allb⟩
      have plen : (placesL bs).length = (bs.map (·.long)).sum := placesL_len bs
      have p0 : 0 < qs.length := by
        rw [eq.1, plen]
        cases bs with
        | nil =>
          simp at bl
          omega
        | cons b bs =>
          have := (hf.ok b (List.mem_cons_self ..)).lo
          rw [List.map_cons, List.sum_cons]
          omega
      have p40 : qs.length ≤ 40 := by rw [eq.1, plen]; exact allb
      have fe5 := hf.fe
      obtain ⟨kvs5, ek5⟩ := fe5.dict
      have lne : ∀ {D : Addr} {xs : List V}, H5 D = some (.lst xs) → D ≠ g.f := fun {D xs} h => ne_of h ek5 (by intro z; cases z)
      have ztf5 : tz ≠ g.f := ne_of hf.hz ek5 (by intro z; cases z)
      have sig : sg.length ≤ 4 ∧ 2 ≤ sg.length := ⟨hsg.hi, hsg.lo⟩
      refine ⟨.ref g.f, rfl, .ref tz, rfl, tz, _, 3, _, rfl, rfl, SqT.of hf.hz, atI_nat (j := 3) rfl, z3, 1, rfl, rfl, g, (z3 : Int) + 1, n + 30 + 3 * ns.length, rfl, fe5, by omega, by omega, small2 _ (by omega) (by omega), fun d6 H6 d60 d61 fe6 kp6 => ?_⟩
      obtain ⟨m6, rfl⟩ := Int.eq_ofNat_of_zero_le d60
      refine ⟨(m6 : Int), rfl, by omega, by omega, ?_⟩
      rw [Int.toNat_natCast]
      refine for_it (walk_range (lo := 0) (n := m6)) (fun i σ H7 => ∃ (rs : List PressL) (w7 w8 w9 w10 w11 w12 w13 w14 : Option V), σ = [some (.ref g.f), some (.ref tz), some (.str (tx sg)), some (.ref ln), some (.ref lb), some (.ref lq), some (.ref lp), w7, w8, w9, w10, w11, w12, w13, w14, none] ∧
        rs.length = i ∧ (∀ r ∈ rs, FitsWork sg (placesL bs) r) ∧ (∃ m, H7 lp = some (.lst m) ∧ Each RStamp H7 m rs) ∧ (H7 lb = some (.lst l) ∧ Each RBand H7 l bs) ∧ (H7 lq = some (.lst qs) ∧ Places H7 qs (placesL bs)) ∧ H7 tz = some (.tup [.int z0, .int z1, .int z2, .int z3, .int z4]) ∧ FeedAt K H7 g (n + 60 + 40 * i) ∧ Kept g.f H H7)
        ⟨[], _, _, _, _, _, _, _, _, rfl, rfl, by simp, ⟨[], kp6 _ _ (lne hf.hp) hf.hp, Each.nil⟩, ⟨kp6 _ _ (lne hl) hl, el.imp (RBand.kt (Kt.kept fe5 kp6))⟩, ⟨kp6 _ _ (lne hqs) hqs, eq.imp (RPlace.kt (Kt.kept fe5 kp6))⟩, kp6 _ _ ztf5 hf.hz, fe6.le (by omega), hf.kp.trans kp6⟩ (fun _ _ _ _ _ => trivial) ?_ ?_
      · rintro i x σ H7 H7' hi ⟨rs, w7, w8, w9, w10, w11, w12, w13, w14, rfl, rl, fit, ⟨m, hm, em⟩, ⟨hl7, el7⟩, ⟨hq7, eq7⟩, hz7, fe7, kp7⟩ ⟨rfl, rfl⟩
        obtain ⟨kvs7, ek7⟩ := fe7.dict
        have lne7 : ∀ {D : Addr} {xs : List V}, H7' D = some (.lst xs) → D ≠ g.f := fun {D xs} h => ne_of h ek7 (by intro z; cases z)
        have ztf7 : tz ≠ g.f := ne_of hz7 ek7 (by intro z; cases z)
        refine ⟨⟨_, rfl⟩, .ref g.f, rfl, .ref tz, rfl, tz, _, 4, _, rfl, rfl, SqT.of hz7, atI_nat (j := 4) rfl, g, z4, n + 60 + 40 * i, rfl, fe7, by omega, by omega, small _ (by omega), fun d8 H8 d80 d81 fe8 kp8 => ⟨1, d8, rfl, rfl, ?_⟩⟩
        obtain ⟨m8, rfl⟩ := Int.eq_ofNat_of_zero_le d80
        refine ⟨1 + (m8 : Int), rfl, by omega, by omega, fun D nD => ?_⟩
        have tn : (1 + (m8 : Int)).toNat = 1 + m8 := by omega
        rw [tn]
        refine lc_feed (walk_range (lo := 0) (n := 1 + m8)) g (n + 60 + 40 * i + 1) 1 (fun c : Nat => V.str (tx [c])) (fun bar => ∀ c ∈ bar, c = 120 ∨ c = 45) (by simp) (by omega) fe8 nD (fun _ _ _ => trivial) ?_ ?_ mono_name
        · rintro j y H9 H9' bar Qy hj hl9 hR kp9 fe9 ⟨rfl, rfl⟩ qy
          refine ⟨rfl, ?_⟩
          refine ⟨.ref g.f, rfl, g, .str (tx [120, 120, 45]), n + 60 + 40 * i + 1 + 1 * j, rfl, fe9, by omega, .inl ⟨[120, 120, 45], rfl, by decide, by decide, fun c HA hc feA kpA => qy c HA (fun e he => ?_) kpA (feA.le (by omega))⟩⟩
          rcases List.mem_append.mp he with he | he
          · exact hR e he
          · rw [List.mem_singleton.mp he]
            have : c = 120 ∨ c = 120 ∨ c = 45 := by simpa using hc
            omega
        · intro H9 bar hbl hR kp9 fe9 hD9
          refine ⟨tx [], D, ones bar, tx_nil ▸ rfl, rfl, .inl (SqL.of (by unfold ones; rw [List.map_map]; exact hD9)), ?_, ?_⟩
          · rw [ones_sum, ones_len, tx_len]
            simp
            omega
          rw [ones_join]
          have k79 := kp8.trans kp9
          have hq9 := k79 _ _ (lne7 hq7) hq7
          have hm9 := k79 _ _ (lne7 hm) hm
          have hl9 := k79 _ _ (lne7 hl7) hl7
          have kt79 : Kt H7' H9 := Kt.kept fe7 k79
          refine ⟨.ref g.f, rfl, .ref lq, rfl, g, .ref lq, n + 60 + 40 * i + 1 + 1 * (1 + m8), rfl, fe9, by omega, .inr ⟨lq, qs, rfl, SqL.of hq9, p0, by omega, fun xa HA hxa feA kpA => ?_⟩⟩
          obtain ⟨ja, eja⟩ := List.mem_iff_getElem?.mp hxa
          obtain ⟨sa, esa, ta, rfl, pta⟩ := (eq7.imp (RPlace.kt kt79)).at_ eja
          obtain ⟨kvs9, ek9⟩ := fe9.dict
          have lne9 : ∀ {D : Addr} {xs : List V}, H9 D = some (.lst xs) → D ≠ g.f := fun {D xs} h => ne_of h ek9 (by intro z; cases z)
          have hqA := kpA _ _ (lne9 hq9) hq9
          have hmA := kpA _ _ (lne9 hm9) hm9
          refine ⟨.ref lp, rfl, .inl ⟨rfl, _, SqL.of hmA⟩, .ref ta, rfl, .ref g.f, rfl, .ref lq, rfl, g, .ref lq, n + 60 + 40 * i + 1 + 1 * (1 + m8) + 1, rfl, feA, by omega, .inr ⟨lq, qs, rfl, SqL.of hqA, p0, by omega, fun xb HB hxb feB kpB => ?_⟩⟩
          have k7B : Kept g.f H7' HB := (k79.trans kpA).trans kpB
          obtain ⟨jb, ejb⟩ := List.mem_iff_getElem?.mp hxb
          obtain ⟨sb, esb, tb, rfl, ptb⟩ := (eq7.imp (RPlace.kt (Kt.kept fe7 k7B))).at_ ejb
          refine ⟨.ref g.f, rfl, .str (tx sg), rfl, g, sg, n + 60 + 40 * i + 1 + 1 * (1 + m8) + 1 + 1, rfl, hsg, feB, by omega, fun rows TT HC hrl hrows nTT hTT feC kpC => ?_⟩
          refine ⟨.str (tx bar), rfl, (by show 4 ≤ sizeLine; decide), fun t nt => ?_⟩
          have st := same_new (o := .tup [.ref ta, .ref tb, .ref TT, .str (tx bar)]) nt
          have k7C : Kept g.f H7' HC := k7B.trans kpC
          have hmC := k7C _ _ (lne7 hm) hm
          have ml : m.length ≤ 8 := by rw [em.1, rl]; omega
          refine ⟨lp, m, _, rfl, rfl, st _ _ hmC, small1000 (by omega), ?_⟩
          generalize hHE : upd HC t (.tup [.ref ta, .ref tb, .ref TT, .str (tx bar)]) = HE at *
          have htE : HE t = some (.tup [.ref ta, .ref tb, .ref TT, .str (tx bar)]) := by rw [← hHE]; exact upd_same
          have ktAE : Kt H9 HE := (((Kt.kept fe9 kpA).trans (Kt.kept feA kpB)).trans (Kt.kept feB kpC)).trans (Kt.of st)
          have ktBE : Kt HB HE := (Kt.kept feB kpC).trans (Kt.of st)
          have kt7E : Kt H7' HE := kt79.trans ktAE
          have hmE := st _ _ hmC
          let r : PressL := ⟨sa, sb, rows, bar⟩
          have rst : RStamp HE (.ref t) r := ⟨t, ta, tb, TT, rfl, htE, ⟨IsPlace.kt ktAE pta, IsPlace.kt ktBE ptb, st _ _ hTT⟩⟩
          generalize hHF : upd HE lp (.lst (m ++ [.ref t])) = HF
          have knF : Kn HE HF := hHF ▸ Kn.put hmE
          have hmF : HF lp = some (.lst (m ++ [.ref t])) := by rw [← hHF]; exact upd_same
          have neF : ∀ {D : Addr} {o : HO}, D ≠ lp → HE D = some o → HF D = some o := fun {D o} ne e => by
            rw [← hHF, upd_ne ne]
            exact e
          have hne0 : ∀ {D : Addr} {xs : List V}, H7' D = some (.lst xs) → HE D = some (.lst xs) := fun {D xs} h => st _ _ (k7C _ _ (lne7 h) h)
          have kp7E : Kept g.f H HE := (kp7.trans k7C).trans (Kept.of st)
          have feE := feC.same st
          have ktF : Kt H7' HF := kt7E.trans (Kt.kn knF)
          have zlp : tz ≠ lp := ne_of hz7 hm (by intro z; cases z)
          have np4 : H4 lp = none := by
            rw [upd_ne pq, upd_ne pb] at np
            exact np
          refine ⟨rs ++ [r], _, _, _, _, _, _, _, _, rfl, by rw [List.length_append, rl]; rfl, ?_, ⟨_, hmF, ((em.imp (RStamp.kt ktF)).snoc (RStamp.kn knF _ _ rst))⟩, ⟨neF (fun z => pb z.symm) (hne0 hl7), el7.imp (RBand.kt ktF)⟩, ⟨neF hf.qp (hne0 hq7), eq7.imp (RPlace.kt ktF)⟩, neF zlp (st _ _ (k7C _ _ ztf7 hz7)), ?_, hHF ▸ kept_put kp7E np0⟩
          · intro c hc
            rcases List.mem_append.mp hc with hc | hc
            · exact fit c hc
            · rw [List.mem_singleton.mp hc]
              have ma : sa ∈ placesL bs := List.mem_of_getElem? esa
              have mb : sb ∈ placesL bs := List.mem_of_getElem? esb
              have at12 : ∀ s ∈ placesL bs, s.at_ < 12 := fun s hs => by
                obtain ⟨b, hb, h2⟩ := List.mem_flatMap.mp hs
                obtain ⟨j, hj, rfl⟩ := List.mem_map.mp h2
                have := (bok.each b hb).hi
                have := List.mem_range.mp hj
                show j < 12
                omega
              refine ⟨⟨places_low bok.each _ ma, at12 _ ma, places_low bok.each _ mb, at12 _ mb, ⟨sig.2, sig.1, hrl, fun m hm => ⟨(hrows m hm).1, ?_⟩⟩, ⟨by show 1 ≤ bar.length; omega, by show bar.length ≤ 6; omega, hR⟩⟩, ma, mb, fun m hm c hc => (hrows m hm).2 c hc⟩
              exact fun c hc => hsg.small c ((hrows m hm).2 c hc)
          · refine FeedAt.le (n := n + 60 + 40 * i + 1 + 1 * (1 + m8) + 1 + 1 + 20) ?_ (by omega)
            exact hHF ▸ FeedAt.put fe4 np4 feE
      · rintro σ H7 ⟨rs, w7, w8, w9, w10, w11, w12, w13, w14, rfl, rl, fit, ⟨m, hm, em⟩, ⟨hl7, el7⟩, ⟨hq7, eq7⟩, hz7, fe7, kp7⟩
        intro rd nrd
        have hrd : (upd H7 rd (.dK [])) rd = some (.dK []) := upd_same
        refine ⟨.str (tx sg), rfl, .ref lb, rfl, .ref lp, rfl, .ref lq, rfl, ?_⟩
        refine ⟨hrd, [(.inr "signs", .str (tx sg)), (.inr "bands", .ref lb), (.inr "presses", .ref lp), (.inr "places", .ref lq)], rfl, (by show 4 ≤ 15; decide), ?_⟩
        have made : mergeK [] ([(.inr "signs", .str (tx sg)), (.inr "bands", .ref lb), (.inr "presses", .ref lp), (.inr "places", .ref lq)] : List (Key × V)) = [(.inr "signs", .str (tx sg)), (.inr "bands", .ref lb), (.inr "presses", .ref lp), (.inr "places", .ref lq)] := raw_merge sg lb lp lq
        rw [made]
        have nrd7 : upd H7 rd (.dK []) = upd H7 rd (.dK []) := rfl
        have s8 : Same H7 (upd (upd H7 rd (.dK [])) rd (.dK [(.inr "signs", .str (tx sg)), (.inr "bands", .ref lb), (.inr "presses", .ref lp), (.inr "places", .ref lq)])) := fun b o e => by
          have ne := ne_of_none e nrd
          rw [upd_ne ne, upd_ne ne]
          exact e
        have nH : H rd = none := by
          cases e : H rd with
          | none => rfl
          | some o =>
            by_cases c : rd = g.f
            · obtain ⟨kv, ek⟩ := fe7.dict
              rw [c, ek] at nrd
              cases nrd
            · rw [kp7 _ _ c e] at nrd
              cases nrd
        refine q ⟨sg, bs, rs⟩ rd _ ⟨hsg, bok, by show rs.length ≤ 8; omega, fit⟩ nH ⟨lb, lp, lq, l, m, qs, upd_same, s8 _ _ hl7, el7.imp (RBand.kt (Kt.of s8)), s8 _ _ hm, em.imp (RStamp.kt (Kt.of s8)), s8 _ _ hq7, eq7.imp (RPlace.kt (Kt.of s8))⟩ ((fe7.same s8).le (by omega)) (kp7.trans (Kept.of s8))
end
end K23
set_option Elab.async false
set_option linter.all false
set_option maxRecDepth 100000
set_option maxHeartbeats 2000000
/-! How keyword-only arguments bind. -/
namespace K23
open PySem PySem.Spec PyProof.Rows L2 Bp
section
variable {K : PySem.W.Frag} {f : Addr} {fd : FuncData}
theorem kb_Band (F : FD K "__init__" "Band.__init__" s_Band_init [] [("pace", .int 0)] f fd) : ∃ mv : List Value, KBn K fd ["self", "name", "long", "pace"] 3 ["pace"] (fun us ws => us ++ ws) (fun vs zs => vs ++ zs) := by
  refine F.kbinds0 3 ["pace"] [] (fun us _ ws => us ++ ws) (by intro h; cases h) (fun q h => by cases h) (fun a _ c => a.append c) ?_
  intro D doc pm an cdv ct us mv ws hu hm hw
  match us, mv, ws, hu, hm, hw with
  | [_, _, _], [], [_], _, _, _ => exact rfl
theorem kb_Press (F : FD K "__init__" "Press.__init__" s_Press_init [] [("rhythm", .str "x")] f fd) : ∃ mv : List Value, KBn K fd ["self", "above", "below", "table", "rhythm"] 4 ["rhythm"] (fun us ws => us ++ ws) (fun vs zs => vs ++ zs) := by
  refine F.kbinds0 4 ["rhythm"] [] (fun us _ ws => us ++ ws) (by intro h; cases h) (fun q h => by cases h) (fun a _ c => a.append c) ?_
  intro D doc pm an cdv ct us mv ws hu hm hw
  match us, mv, ws, hu, hm, hw with
  | [_, _, _, _], [], [_], _, _, _ => exact rfl
theorem b_Work {dv : V} (F : FD K "__init__" "Work.__init__" s_Work_init [dv] [] f fd) : Binds K fd ["self", "signs", "bands", "presses"] [] := by
  obtain ⟨ds, hv, hb⟩ := F.binds1 (ps := ["self", "signs", "bands", "presses"]) 4 1 (by intro h; cases h) rfl (fun T kV doc pm an cdv ct us its hu hi => by
    match us, its, hu, hi with
    | [_, _, _, _], [_], _, _ => exact ⟨_, rfl, rfl⟩)
  cases hv
  exact hb
end
end K23
set_option Elab.async false
set_option linter.all false
set_option maxRecDepth 100000
set_option maxHeartbeats 2000000
/-! The law's own hand: works are made of what was drawn. -/
namespace K23
open PySem PySem.Spec PyProof.Rows L2 Bp
def rawKvs (s : List Nat) (lb lp lq : Addr) : List (Key × V) := [(.inr "signs", .str (tx s)), (.inr "bands", .ref lb), (.inr "presses", .ref lp), (.inr "places", .ref lq)]
theorem raw_signs (s : List Nat) (lb lp lq : Addr) : valV (rawKvs s lb lp lq) (.inr "signs") = some (.str (tx s)) := valV_pos rfl
theorem raw_bands (s : List Nat) (lb lp lq : Addr) : valV (rawKvs s lb lp lq) (.inr "bands") = some (.ref lb) := by
  unfold rawKvs
  rw [valV_neg (inr_ne w_sb), valV_pos rfl]
theorem raw_presses (s : List Nat) (lb lp lq : Addr) : valV (rawKvs s lb lp lq) (.inr "presses") = some (.ref lp) := by
  unfold rawKvs
  rw [valV_neg (inr_ne w_sp), valV_neg (inr_ne w_bp), valV_pos rfl]
theorem raw_places (s : List Nat) (lb lp lq : Addr) : valV (rawKvs s lb lp lq) (.inr "places") = some (.ref lq) := by
  unfold rawKvs
  rw [valV_neg (inr_ne w_sl), valV_neg (inr_ne w_bl), valV_neg (inr_ne w_pl), valV_pos rfl]
theorem AreBands.snoc {C : Addr} {H : Hp} {ps : List Addr} {bs : List BandL} {p : Addr} {b : BandL} (h : AreBands C H ps bs) (hb : IsBand C H p b) : AreBands C H (ps ++ [p]) (bs ++ [b]) := by
  refine ⟨by rw [List.length_append, List.length_append, h.1]; rfl, fun i q x e1 e2 => ?_⟩
  rcases Nat.lt_or_ge i ps.length with lt | ge
  · rw [List.getElem?_append_left lt] at e1
    rw [List.getElem?_append_left (by rw [← h.1]; exact lt)] at e2
    exact h.2 i q x e1 e2
  · rw [List.getElem?_append_right ge] at e1
    rw [List.getElem?_append_right (by rw [← h.1]; exact ge)] at e2
    have i0 : i - ps.length = 0 := by
      have := (List.getElem?_eq_some_iff.mp e1).1
      simp at this
      omega
    rw [i0] at e1
    rw [← h.1, i0] at e2
    cases e1
    cases e2
    exact hb
/-- a new instance and what its __init__ leaves -/
theorem made_same {H H' : Hp} {x dx C : Addr} (nx : H x = none) (nd : H dx = none) (ne : dx ≠ x) (k : ∀ c o, c ≠ x → upd (upd H dx (.own x)) x (.ins C dx []) c = some o → H' c = some o) : Same H H' := fun b o e => by
  have b1 := ne_of_none e nx
  have b2 := ne_of_none e nd
  refine k b o b1 ?_
  rw [upd_ne b1, upd_ne b2]
  exact e
section
variable {P : Program} {w : World} {K : PySem.W.Frag} {mg : Str → Option Value} {base : Heap} {CW CB CP : Addr}
abbrev NsM : List Str := ["_law_raw_here", "_law_made_here", "_law_name", "_law_wide", "_law_goes", "_law_up", "_law_low", "_law_rule", "_law_bar"]
theorem scMade : FnScope NsM ["_law_raw_here"] (defScope s_law_made) := ⟨rfl, rfl, rfl, by decide +kernel, rfl, by decide +kernel, by decide +kernel⟩
def sp_made (CW CB CP : Addr) : Sp := fun vs H Q _ => ∃ (rd : Addr) (k : WorkL), vs = [.ref rd] ∧ IsRaw H rd k ∧ k.Ok ∧ ∀ p H', Same H H' → IsWork CW CB CP H' p k → Q (.ref p) H'
theorem ok_made {f fB fP fW : Addr} {fd fdB fdP fdW : FuncData} {k : Nat} (F : Fun K "_law_made" "_law_made" s_law_made f fd) (TB : BandTxt K mg CB) (TP : PressTxt K mg CP) (TW : WorkTxt K mg CW) (MB : Mk K CB fB) (MP : Mk K CP fP) (MW : Mk K CW fW)
    (GB : FnOk P w K mg base CX0 k fB fdB ["self", "name", "long", "pace"] (sp_Band_init CB)) (GP : FnOk P w K mg base CX0 k fP fdP ["self", "above", "below", "table", "rhythm"] (sp_Press_init CP)) (GW : FnOk P w K mg base CX0 k fW fdW ["self", "signs", "bands", "presses"] (sp_Work_init CW CB CP))
    (kB : KBn K fdB ["self", "name", "long", "pace"] 3 ["pace"] (fun us ws => us ++ ws) (fun vs zs => vs ++ zs)) (kP : KBn K fdP ["self", "above", "below", "table", "rhythm"] 4 ["rhythm"] (fun us ws => us ++ ws) (fun vs zs => vs ++ zs)) (bW : Binds K fdW ["self", "signs", "bands", "presses"] []) :
    FnOk P w K mg base CX0 (k + 2) f fd ["_law_raw_here"] (sp_made CW CB CP) := by
  refine F.ok scMade (fun vs H Q E h => ?_) (fun cdv A outer sh H vs Q E hr h => ?_)
  · obtain ⟨rd, k, rfl, _⟩ := h
    rfl
  · obtain ⟨rd, k, rfl, ⟨lb, lp, lq, l, m, qq, hrd, hlb, eb, hlp, ep, hlq, el⟩, ok, q⟩ := h
    refine ⟨_, pss_cons (ps_setLc (i := 1) (own := [("_law_name", 2), ("_law_wide", 3), ("_law_goes", 4)]) (g := gTup K 3 (gCons (gName 2) (gCons (gName 3) (gCons (gName 4) gNil)))) (tt := tYes) rfl scMade.nd rfl rfl (by rfl) (pi_list (pe_dget (hu_of hr) (pv 0) pe_str (fun _ _ => rfl)))
        (blkOk_by (own := [("_law_name", 2), ("_law_wide", 3), ("_law_goes", 4)]) (N := NsM) (sc := defScope s_law_made) (by decide +kernel))
        (fun _ _ _ _ _ => pg_tup rfl (pgs_cons (pg_name (i := 2) scMade.nd rfl (Or.inl rfl)) (pgs_cons (pg_name (i := 3) scMade.nd rfl (Or.inl rfl)) (pgs_cons (pg_name (i := 4) scMade.nd rfl (Or.inl rfl)) pgs_nil)))) (fun _ _ _ _ _ => pts_nil)
        (fun _ _ _ _ _ => pe_makeK MB GB hr (by rfl) TB.gC kB pass0 (pa_cons (pv 2) (pa_cons (pv 3) pa_nil)) (pk_cons (pv 4) pk_nil)))
      (pss_one (ps_ret (pe_make MW GW hr (by rfl) TW.gC bW .nil pass0 (pa_cons (pe_dget (hu_of hr) (pv 0) pe_str (fun _ _ => rfl)) (pa_cons (pv 1) (pa_cons (pe_lc (own := [("_law_up", 5), ("_law_low", 6), ("_law_rule", 7), ("_law_bar", 8)]) (g := gTup K 4 (gCons (gName 5) (gCons (gName 6) (gCons (gName 7) (gCons (gName 8) gNil))))) (tt := tYes) rfl scMade.nd (pi_list (pe_dget (hu_of hr) (pv 0) pe_str (fun _ _ => rfl)))
        (blkOk_by (own := [("_law_up", 5), ("_law_low", 6), ("_law_rule", 7), ("_law_bar", 8)]) (N := NsM) (sc := defScope s_law_made) (by decide +kernel))
        (fun _ _ _ _ _ => pg_tup rfl (pgs_cons (pg_name (i := 5) scMade.nd rfl (Or.inl rfl)) (pgs_cons (pg_name (i := 6) scMade.nd rfl (Or.inl rfl)) (pgs_cons (pg_name (i := 7) scMade.nd rfl (Or.inl rfl)) (pgs_cons (pg_name (i := 8) scMade.nd rfl (Or.inl rfl)) pgs_nil))))) (fun _ _ _ _ _ => pts_nil)
        (fun _ _ _ _ _ => pe_makeK MP GP hr (by rfl) TP.gC kP pass0 (pa_cons (pv 5) (pa_cons (pv 6) (pa_cons (pv 7) pa_nil))) (pk_cons (pv 8) pk_nil))) pa_nil)))))), ?_⟩
    have hraw : H rd = some (.dK (rawKvs k.signs lb lp lq)) := hrd
    have gb : DGet H rd (.str "bands") (some (.ref lb)) := raw_bands k.signs lb lp lq ▸ DGet.k (k := Sum.inr "bands") hraw
    have bl := ok.bs.hi
    refine ⟨.ref rd, rfl, rd, _, rfl, gb, lb, rfl, ⟨_, SqL.of hlb⟩, fun D nD => ?_⟩
    refine lc_v (walk_list (K := K) (a := lb) (xs := l)) (fun H1 sm => SqL.of (sm _ _ hlb)) (fun i H' r => ∃ ps : List Addr, r = ps.map V.ref ∧ AreBands CB H' ps (k.bands.take i)) (fun H1 => ⟨[], rfl, rfl, fun i p b h => by simp at h⟩) (fun i H1 r _ h => ?_) (fun i H1 H2 r kn h => ?_) nD ?_ ?_
    · obtain ⟨ps, rfl, ar⟩ := h
      rw [List.length_map, ar.1, List.length_take]
      omega
    · obtain ⟨ps, e, ar⟩ := h
      exact ⟨ps, e, ar.kn kn⟩
    · rintro i x H1 H2 r Qy Qn hi sm ⟨ps, rfl, ar⟩ ⟨rfl, hx⟩ qy _
      obtain ⟨b, ebi, t, rfl, ht⟩ := (eb.imp (RBand.kn (Kn.of sm))).at_ hx
      refine ⟨t, _, rfl, SqT.of ht, rfl, _, _, rfl, _, _, rfl, _, _, rfl, rfl, rfl, yes_kept ?_⟩
      refine ⟨.str (tx b.name), rfl, .int b.long, rfl, .int b.pace, rfl, rfl, rfl, fun y dy ny ndy ne => ?_⟩
      refine ⟨y, dy, b, rfl, ok.bs.each b (List.mem_of_getElem? ebi), upd_same, fun H5 at5 k5 => ⟨rfl, ?_⟩⟩
      have s5 := made_same ny ndy ne k5
      refine qy _ H5 s5 ⟨ps ++ [y], by rw [List.map_append]; rfl, ?_⟩
      rw [List.take_add_one, ebi]
      exact AreBands.snoc (ar.kn (Kn.of s5)) ⟨dy, at5⟩
    · rintro H1 r s1 ⟨ps, rfl, ar⟩ hD
      rw [eb.1, List.take_length] at ar
      have hraw1 := s1 _ _ hraw
      have gs : DGet H1 rd (.str "signs") (some (.str (tx k.signs))) := raw_signs k.signs lb lp lq ▸ DGet.k (k := Sum.inr "signs") hraw1
      have gp : DGet H1 rd (.str "presses") (some (.ref lp)) := raw_presses k.signs lb lp lq ▸ DGet.k (k := Sum.inr "presses") hraw1
      have hlp1 := s1 _ _ hlp
      have few := ok.few
      refine ⟨.ref rd, rfl, rd, _, rfl, gs, .ref D, rfl, .ref rd, rfl, rd, _, rfl, gp, lp, rfl, ⟨_, SqL.of hlp1⟩, fun D2 nD2 => ?_⟩
      refine lc_v (walk_list (K := K) (a := lp) (xs := m)) (fun H2 sm => SqL.of (sm _ _ hlp1)) (fun i H' r => Presses CP H' r (k.presses.take i)) (fun _ => Each.nil) (fun i H2 r _ h => ?_) (fun i H2 H3 r kn h => h.imp (RPress.kn kn)) nD2 ?_ ?_
      · rw [h.1, List.length_take]
        omega
      · rintro i x H2 H3 r Qy Qn hi sm pr ⟨rfl, hx⟩ qy _
        obtain ⟨b, ebi, t, a1, b1, t1, rfl, ht, pa⟩ := (ep.imp (RStamp.kn (Kn.of (s1.trans sm)))).at_ hx
        refine ⟨t, _, rfl, SqT.of ht, rfl, _, _, rfl, _, _, rfl, _, _, rfl, _, _, rfl, rfl, rfl, yes_kept ?_⟩
        refine ⟨.ref a1, rfl, .ref b1, rfl, .ref t1, rfl, .str (tx b.rhythm), rfl, rfl, rfl, fun y dy ny ndy ne => ?_⟩
        have sy : Same H3 (upd (upd H3 dy (.own y)) y (.ins CP dy [])) := fun c o e => by
          rw [upd_ne (ne_of_none e ny), upd_ne (ne_of_none e ndy)]
          exact e
        refine ⟨y, dy, a1, b1, t1, k.signs.length, b, rfl, (ok.fit b (List.mem_of_getElem? ebi)).ok, pa.kn (Kn.of sy), upd_same, fun H5 at5 k5 => ⟨rfl, ?_⟩⟩
        have s5 := made_same ny ndy ne k5
        refine qy _ H5 s5 ?_
        rw [List.take_add_one, ebi]
        exact (pr.imp (RPress.kn (Kn.of s5))).snoc ⟨y, rfl, dy, a1, b1, t1, at5, pa.kn (Kn.of s5)⟩
      · intro H2 r s2 pr hD2
        rw [ep.1, List.take_length] at pr
        refine fun y dy ny ndy ne => ?_
        have sy : Same H2 (upd (upd H2 dy (.own y)) y (.ins CW dy [])) := fun c o e => by
          rw [upd_ne (ne_of_none e ny), upd_ne (ne_of_none e ndy)]
          exact e
        refine ⟨y, dy, D, D2, ps, r, k, rfl, ok, sy _ _ (s2 _ _ hD), ar.kn (Kn.of (s2.trans sy)), sy _ _ hD2, pr.imp (RPress.kn (Kn.of sy)), upd_same, fun H5 iw k5 => ⟨rfl, ?_⟩⟩
        exact q y H5 ((s1.trans s2).trans (made_same ny ndy ne k5)) iw
end
end K23
set_option Elab.async false
set_option linter.all false
set_option maxRecDepth 100000
set_option maxHeartbeats 2000000
/-! Puts and lifts of a work. -/
namespace K23
open PySem PySem.Spec PyProof.Rows L2 Bp
/-- a sign laid down, a press lifted -/
structure PutL where
  beat : Nat
  place : PlaceL
  sign : Nat
structure LiftL where
  beat : Nat
  press : Nat
  up : Bool
def wordOf (b : Bool) : Str := if b = true then "up" else "down"
def RPut : Hp → V → PutL → Prop := fun H v u => ∃ t tp, v = .ref t ∧ H t = some (.tup [.int u.beat, .ref tp, .str (tx [u.sign])]) ∧ IsPlace H tp u.place
def RLift : Hp → V → LiftL → Prop := fun H v u => ∃ t, v = .ref t ∧ H t = some (.tup [.int u.beat, .int u.press, .str (wordOf u.up)])
theorem RPut.kn {H H' : Hp} (k : Kn H H') : ∀ v u, RPut H v u → RPut H' v u := fun v u ⟨t, tp, e, h, ip⟩ => ⟨t, tp, e, k _ _ (by intro xs z; cases z) h, ip.kn k⟩
theorem RLift.kn {H H' : Hp} (k : Kn H H') : ∀ v u, RLift H v u → RLift H' v u := fun v u ⟨t, e, h⟩ => ⟨t, e, k _ _ (by intro xs z; cases z) h⟩
structure PutL.Ok (k : WorkL) (u : PutL) : Prop where
  lo : 1 ≤ u.beat
  hi : (u.beat : Int) ≤ 10 ^ 60
  pl : u.place ∈ k.places
  sg : u.sign ∈ k.signs
structure LiftL.Ok (k : WorkL) (u : LiftL) : Prop where
  hi : (u.beat : Int) ≤ 10 ^ 60
  pr : u.press < k.presses.length
theorem wno (g : List Nat) (tb tp lp dn : Addr) {m : Str} (h : (decide (m = "_signs") || decide (m = "_bands") || decide (m = "_presses") || decide (m = "_places") || decide (m = "_numbers")) = false) : (workF g tb tp lp dn).lookup m = none := by
  simp only [Bool.or_eq_false_iff, decide_eq_false_iff_not] at h
  obtain ⟨⟨⟨⟨a, b⟩, c⟩, d⟩, e⟩ := h
  exact workF_no _ _ _ _ _ a b c d e
section
variable {P : Program} {w : World} {K : PySem.W.Frag} {mg : Str → Option Value} {base : Heap} {CW CB CP : Addr}
def sp_Work_signs (CW CB CP : Addr) : Sp := fun vs H Q _ => ∃ (p : Addr) (k : WorkL), vs = [.ref p] ∧ IsWork CW CB CP H p k ∧ Q (.str (tx k.signs)) H
def sp_Work_places (CW CB CP : Addr) : Sp := fun vs H Q _ => ∃ (p : Addr) (k : WorkL), vs = [.ref p] ∧ IsWork CW CB CP H p k ∧ ∀ l m H', Same H H' → H l = none → H' l = some (.lst m) → Places H' m k.places → Q (.ref l) H'
theorem ok_Work_signs {f : Addr} {fd : FuncData} {k : Nat} (T : WorkTxt K mg CW) (F : Fun K "signs" "Work.signs" s_Work_signs f fd) : FnOk P w K mg base CX0 (k + 1) f fd ["self"] (sp_Work_signs CW CB CP) := by
  refine F.ok (N := ["self"]) ⟨rfl, rfl, rfl, by decide +kernel, rfl, by decide +kernel, by decide +kernel⟩ (fun vs H Q E h => ?_) (fun cdv A outer s H vs Q E hr h => ?_)
  · obtain ⟨p, k, rfl, _⟩ := h
    rfl
  · obtain ⟨p, k, rfl, ⟨dx, tb, tp, lp, dn, e, z⟩, q⟩ := h
    refine ⟨_, pss_one (ps_ret (pe_fld (pv 0) rfl)), ?_⟩
    exact ⟨.ref p, rfl, p, CW, dx, _, _, rfl, e, T.cl, T.nS, workF_signs _ _ _ _ _, q⟩
theorem ok_Work_places {f : Addr} {fd : FuncData} {k : Nat} (B : Blt mg) (T : WorkTxt K mg CW) (F : Fun K "places" "Work.places" s_Work_places f fd) : FnOk P w K mg base CX0 (k + 1) f fd ["self"] (sp_Work_places CW CB CP) := by
  refine F.ok (N := ["self"]) ⟨rfl, rfl, rfl, by decide +kernel, rfl, by decide +kernel, by decide +kernel⟩ (fun vs H Q E h => ?_) (fun cdv A outer s H vs Q E hr h => ?_)
  · obtain ⟨p, k, rfl, _⟩ := h
    rfl
  · obtain ⟨p, k, rfl, ⟨dx, tb, tp, lp, dn, e, z⟩, q⟩ := h
    obtain ⟨m, em, pl⟩ := z.ls
    refine ⟨_, pss_one (ps_ret (pe_callTy call_list_of (by rfl) B.list (by decide +kernel) (pa_cons (pe_fld (pv 0) rfl) pa_nil))), ?_⟩
    exact ⟨.ref p, rfl, p, CW, dx, _, _, rfl, e, T.cl, T.nL, workF_places _ _ _ _ _, lp, _, rfl, .inl (SqL.of em), fun l nl => q l m _ (same_new nl) nl upd_same (pl.imp (RPlace.kn (Kn.new nl)))⟩
/-- a work's methods -/
structure WorkDefs (P : Program) (w : World) (K : PySem.W.Frag) (mg : Str → Option Value) (base : Heap) (CW CB CP : Addr) (k : Nat) : Prop where
  txt : WorkTxt K mg CW
  isi : IsiTxt K CW
  signs : ∃ f fd, Meth K CW "signs" f ∧ Binds K fd ["self"] [] ∧ FnOk P w K mg base CX0 k f fd ["self"] (sp_Work_signs CW CB CP)
  bands : ∃ f fd, Meth K CW "bands" f ∧ Binds K fd ["self"] [] ∧ FnOk P w K mg base CX0 k f fd ["self"] (sp_Work_bands CW CB CP)
  presses : ∃ f fd, Meth K CW "presses" f ∧ Binds K fd ["self"] [] ∧ FnOk P w K mg base CX0 k f fd ["self"] (sp_Work_presses CW CB CP)
  places : ∃ f fd, Meth K CW "places" f ∧ Binds K fd ["self"] [] ∧ FnOk P w K mg base CX0 k f fd ["self"] (sp_Work_places CW CB CP)
  has_place : ∃ f fd, Meth K CW "has_place" f ∧ Binds K fd ["self", "thing"] [] ∧ FnOk P w K mg base CX0 k f fd ["self", "thing"] (sp_has_place CW CB CP)
  place_in : ∃ f fd, Meth K CW "place_in" f ∧ Binds K fd ["self", "place"] [] ∧ FnOk P w K mg base CX0 k f fd ["self", "place"] (sp_place_in CW CB CP)
  has_press : ∃ f fd, Meth K CW "has_press" f ∧ Binds K fd ["self", "thing"] [] ∧ FnOk P w K mg base CX0 k f fd ["self", "thing"] (sp_has_press CW CB CP)
/-! ### is_sign -/
def sp_is_sign : Sp := fun vs H Q _ => ∃ (g : List Nat) (c : Nat), vs = [.str (tx g), .str (tx [c])] ∧ c ∈ g ∧ Q (.bl true) H
theorem ok_is_sign {f : Addr} {fd : FuncData} {k : Nat} (B : Blt mg) (F : Fun K "is_sign" "is_sign" s_is_sign f fd) : FnOk P w K mg base CX0 (k + 1) f fd ["signs", "thing"] sp_is_sign := by
  refine F.ok (N := ["signs", "thing"]) ⟨rfl, rfl, rfl, by decide +kernel, rfl, by decide +kernel, by decide +kernel⟩ (fun vs H Q E h => ?_) (fun cdv A outer s H vs Q E hr h => ?_)
  · obtain ⟨g, c, rfl, _⟩ := h
    rfl
  · obtain ⟨g, c, rfl, hc, q⟩ := h
    refine ⟨_, pss_one (ps_ret (pe_and (pe_callB call_isi (by rfl) B.isi (by decide +kernel) (pa_cons (pv 1) (pa_cons (pe_bltn (u := .type "str") (v := .ty "str") (by rfl) B.str (by decide +kernel) (by rfl)) pa_nil)))
      (pe_and (pe_cmpR op_eq (pe_callB call_len (by rfl) B.len PySem.boot_len (pa_cons (pv 1) pa_nil)) pe_int (nomark _)) (pe_one (pe_cmpR op_in_sign (pv 1) (pv 0) (by rfl)))))), ?_⟩
    refine ⟨.str (tx [c]), rfl, .str (tx [c]), .ty "str", .type "str", .type "str", true, rfl, .ty _, .base (.str _), kit_ty (by decide +kernel), true, rfl, iteT ?_⟩
    refine ⟨.str (tx [c]), rfl, .str (tx [c]), 1, rfl, ⟨fit_tx (by show 1 ≤ 1000; decide), rfl⟩, rfl, _, rfl, yesOf (decide_eq_true rfl) ?_⟩
    refine ⟨.str (tx [c]), rfl, .str (tx g), rfl, c, tx g, rfl, rfl, ?_⟩
    have hg : c ∈ (tx g).cps.toList := by
      rw [tx_list]
      exact hc
    exact qbl (decide_eq_true hg) q
/-! ### beats, words -/
def sp_is_put_beat : Sp := fun vs H Q _ => ∃ i : Int, vs = [.int i] ∧ 1 ≤ i ∧ i ≤ 10 ^ 60 ∧ Q (.bl true) H
def sp_is_lift_beat : Sp := fun vs H Q _ => ∃ i : Int, vs = [.int i] ∧ 0 ≤ i ∧ i ≤ 10 ^ 60 ∧ Q (.bl true) H
theorem ok_is_put_beat {f : Addr} {fd : FuncData} {k : Nat} (gl : ∃ t, mg "LAST_BEAT" = some (.int (10 ^ 60) t)) (D : Def P w K mg base CX0 k "is_within" s_is_within ["thing", "least", "most"] sp_is_within) (F : Fun K "is_put_beat" "is_put_beat" s_is_put_beat f fd) : FnOk P w K mg base CX0 (k + 1) f fd ["thing"] sp_is_put_beat := by
  obtain ⟨f1, fd1, F1, b1, g1, G1⟩ := D.ex
  obtain ⟨tk, gl⟩ := gl
  refine F.ok (N := ["thing"]) ⟨rfl, rfl, rfl, by decide +kernel, rfl, by decide +kernel, by decide +kernel⟩ (fun vs H Q E h => ?_) (fun cdv A outer s H vs Q E hr h => ?_)
  · obtain ⟨i, rfl, _⟩ := h
    rfl
  · obtain ⟨i, rfl, h1, h2, q⟩ := h
    refine ⟨_, pss_one (ps_ret (pe_call G1 hr rfl g1 F1.kp b1 .nil pass0 (pa_cons (pv 0) (pa_cons pe_int (pa_cons (pe_glob (v := .int (10 ^ 60)) (by rfl) gl ⟨_, rfl⟩) pa_nil))))), ?_⟩
    exact ⟨.int i, rfl, i, 1, 10 ^ 60, rfl, qbl (decide_eq_true ⟨h1, h2⟩) q⟩
theorem ok_is_lift_beat {f : Addr} {fd : FuncData} {k : Nat} (gl : ∃ t, mg "LAST_BEAT" = some (.int (10 ^ 60) t)) (D : Def P w K mg base CX0 k "is_within" s_is_within ["thing", "least", "most"] sp_is_within) (F : Fun K "is_lift_beat" "is_lift_beat" s_is_lift_beat f fd) : FnOk P w K mg base CX0 (k + 1) f fd ["thing"] sp_is_lift_beat := by
  obtain ⟨f1, fd1, F1, b1, g1, G1⟩ := D.ex
  obtain ⟨tk, gl⟩ := gl
  refine F.ok (N := ["thing"]) ⟨rfl, rfl, rfl, by decide +kernel, rfl, by decide +kernel, by decide +kernel⟩ (fun vs H Q E h => ?_) (fun cdv A outer s H vs Q E hr h => ?_)
  · obtain ⟨i, rfl, _⟩ := h
    rfl
  · obtain ⟨i, rfl, h1, h2, q⟩ := h
    refine ⟨_, pss_one (ps_ret (pe_call G1 hr rfl g1 F1.kp b1 .nil pass0 (pa_cons (pv 0) (pa_cons pe_int (pa_cons (pe_glob (v := .int (10 ^ 60)) (by rfl) gl ⟨_, rfl⟩) pa_nil))))), ?_⟩
    exact ⟨.int i, rfl, i, 0, 10 ^ 60, rfl, qbl (decide_eq_true ⟨h1, h2⟩) q⟩
def sp_is_lift_word : Sp := fun vs H Q _ => ∃ b : Bool, vs = [.str (wordOf b)] ∧ Q (.bl true) H
theorem ok_is_lift_word {f : Addr} {fd : FuncData} {k : Nat} (F : Fun K "is_lift_word" "is_lift_word" s_is_lift_word f fd) : FnOk P w K mg base CX0 (k + 1) f fd ["thing"] sp_is_lift_word := by
  refine F.ok (N := ["thing"]) ⟨rfl, rfl, rfl, by decide +kernel, rfl, by decide +kernel, by decide +kernel⟩ (fun vs H Q E h => ?_) (fun cdv A outer s H vs Q E hr h => ?_)
  · obtain ⟨b, rfl, _⟩ := h
    rfl
  · obtain ⟨b, rfl, q⟩ := h
    refine ⟨_, pss_one (ps_ret (pe_or (pe_cmpR op_eq (pv 0) pe_str (nomark _)) (pe_one (pe_cmpR op_eq (pv 0) pe_str (nomark _))))), ?_⟩
    cases b with
    | true => exact ⟨.str (wordOf true), rfl, rfl, _, rfl, yesOf (decide_eq_true rfl) q⟩
    | false =>
      refine ⟨.str (wordOf false), rfl, rfl, _, rfl, noOf (by decide +kernel) ?_⟩
      exact ⟨.str (wordOf false), rfl, rfl, qbl (decide_eq_true rfl) q⟩
/-! ### is_put, is_lift -/
theorem sc_is_put : FnScope ["work", "thing", "beat", "place", "sign"] ["work", "thing"] (defScope s_is_put) := ⟨rfl, rfl, rfl, by decide +kernel, rfl, by decide +kernel, by decide +kernel⟩
theorem sc_is_lift : FnScope ["work", "thing", "beat", "press", "word"] ["work", "thing"] (defScope s_is_lift) := ⟨rfl, rfl, rfl, by decide +kernel, rfl, by decide +kernel, by decide +kernel⟩
def sp_is_put (CW CB CP : Addr) : Sp := fun vs H Q _ => ∃ (p : Addr) (v : V) (k : WorkL) (u : PutL), vs = [.ref p, v] ∧ IsWork CW CB CP H p k ∧ k.Ok ∧ RPut H v u ∧ u.Ok k ∧ ∀ H', Same H H' → Q (.bl true) H'
def sp_is_lift (CW CB CP : Addr) : Sp := fun vs H Q _ => ∃ (p : Addr) (v : V) (k : WorkL) (u : LiftL), vs = [.ref p, v] ∧ IsWork CW CB CP H p k ∧ RLift H v u ∧ u.Ok k ∧ ∀ H', Same H H' → Q (.bl true) H'
theorem ok_is_put {f : Addr} {fd : FuncData} {k : Nat} (B : Blt mg) (T : WorkDefs P w K mg base CW CB CP k) (D1 : Def P w K mg base CX0 k "is_put_beat" s_is_put_beat ["thing"] sp_is_put_beat) (D2 : Def P w K mg base CX0 k "is_sign" s_is_sign ["signs", "thing"] sp_is_sign)
    (F : Fun K "is_put" "is_put" s_is_put f fd) : FnOk P w K mg base CX0 (k + 1) f fd ["work", "thing"] (sp_is_put CW CB CP) := by
  obtain ⟨f1, fd1, F1, b1, g1, G1⟩ := D1.ex
  obtain ⟨f2, fd2, F2, b2, g2, G2⟩ := D2.ex
  obtain ⟨fh, fdh, mh, bh, Gh⟩ := T.has_place
  obtain ⟨fs, fds, ms, bs, Gs⟩ := T.signs
  refine F.ok sc_is_put (fun vs H Q E h => ?_) (fun cdv A outer s H vs Q E hr h => ?_)
  · obtain ⟨p, v, k, u, rfl, _⟩ := h
    rfl
  · obtain ⟨p, v, k, u, rfl, iw, ok, ⟨t, tp, rfl, ht, ip⟩, uo, q⟩ := h
    refine ⟨_, pss_cons (ps_if (PW.pt (pw_or (pt_not (pt_val (pe_callB call_isi (by rfl) B.isi (by decide +kernel) (pa_cons (pv 1) (pa_cons (pe_bltn (u := .type "tuple") (v := .ty "tuple") (by rfl) B.tuple (by decide +kernel) (by rfl)) pa_nil)))))
        (pw_or1 (pt_cmpR op_ne (pe_callB call_len (by rfl) B.len PySem.boot_len (pa_cons (pv 1) pa_nil)) pe_int (nomark _))))) (pss_one (ps_ret pe_bl)) pss_nil)
      (pss_cons (ps_asg (pv 1) (pg_tup rfl (pgs_cons (pg_name (i := 2) sc_is_put.nd rfl (.inl rfl)) (pgs_cons (pg_name (i := 3) sc_is_put.nd rfl (.inl rfl)) (pgs_cons (pg_name (i := 4) sc_is_put.nd rfl (.inl rfl)) pgs_nil)))))
      (pss_one (ps_ret (pe_and (pe_call G1 hr rfl g1 F1.kp b1 .nil pass0 (pa_cons (pv 2) pa_nil)) (pe_and (pe_meth (pv 0) T.txt.cl mh Gh hr bh .nil pass0 (pa_cons (pv 3) pa_nil))
        (pe_one (pe_call G2 hr rfl g2 F2.kp b2 .nil pass0 (pa_cons (pe_meth0 (pv 0) T.txt.cl ms Gs hr bs .nil pass0) (pa_cons (pv 4) pa_nil))))))))), ?_⟩
    refine ⟨.ref t, rfl, .ref t, .ty "tuple", .type "tuple", .type "tuple", true, rfl, .ty _, .base (.tup ht), kit_ty (by decide +kernel), true, rfl, noOf rfl ?_⟩
    refine ⟨.ref t, rfl, .ref t, 3, rfl, .inr ⟨_, SqT.of ht, rfl⟩, rfl, _, rfl, noOf (by decide) ?_⟩
    refine ⟨.ref t, rfl, t, _, rfl, SqT.of ht, rfl, _, _, rfl, _, _, rfl, _, _, rfl, rfl, ?_⟩
    refine ⟨.int u.beat, rfl, (u.beat : Int), rfl, (by have := uo.lo; omega), uo.hi, true, rfl, iteT ?_⟩
    obtain ⟨dx, tb, tq, lp, dn, e, z⟩ := id iw
    refine ⟨.ref p, rfl, p, dx, _, rfl, e, wno _ _ _ _ _ (by decide +kernel), .ref tp, rfl, p, tp, k, u.place, rfl, iw, ip, places_low ok.bs.each _ uo.pl, fun H1 s1 => ⟨_, rfl, yesOf (decide_eq_true uo.pl) ?_⟩⟩
    refine ⟨.ref p, rfl, p, dx, _, rfl, s1 _ _ e, wno _ _ _ _ _ (by decide +kernel), p, k, rfl, iw.same s1, .str (tx [u.sign]), rfl, k.signs, u.sign, rfl, uo.sg, q H1 s1⟩
theorem ok_is_lift {f : Addr} {fd : FuncData} {k : Nat} (B : Blt mg) (T : WorkDefs P w K mg base CW CB CP k) (D1 : Def P w K mg base CX0 k "is_lift_beat" s_is_lift_beat ["thing"] sp_is_lift_beat) (D2 : Def P w K mg base CX0 k "is_lift_word" s_is_lift_word ["thing"] sp_is_lift_word)
    (F : Fun K "is_lift" "is_lift" s_is_lift f fd) : FnOk P w K mg base CX0 (k + 1) f fd ["work", "thing"] (sp_is_lift CW CB CP) := by
  obtain ⟨f1, fd1, F1, b1, g1, G1⟩ := D1.ex
  obtain ⟨f2, fd2, F2, b2, g2, G2⟩ := D2.ex
  obtain ⟨fh, fdh, mh, bh, Gh⟩ := T.has_press
  refine F.ok sc_is_lift (fun vs H Q E h => ?_) (fun cdv A outer s H vs Q E hr h => ?_)
  · obtain ⟨p, v, k, u, rfl, _⟩ := h
    rfl
  · obtain ⟨p, v, k, u, rfl, iw, ⟨t, rfl, ht⟩, uo, q⟩ := h
    refine ⟨_, pss_cons (ps_if (PW.pt (pw_or (pt_not (pt_val (pe_callB call_isi (by rfl) B.isi (by decide +kernel) (pa_cons (pv 1) (pa_cons (pe_bltn (u := .type "tuple") (v := .ty "tuple") (by rfl) B.tuple (by decide +kernel) (by rfl)) pa_nil)))))
        (pw_or1 (pt_cmpR op_ne (pe_callB call_len (by rfl) B.len PySem.boot_len (pa_cons (pv 1) pa_nil)) pe_int (nomark _))))) (pss_one (ps_ret pe_bl)) pss_nil)
      (pss_cons (ps_asg (pv 1) (pg_tup rfl (pgs_cons (pg_name (i := 2) sc_is_lift.nd rfl (.inl rfl)) (pgs_cons (pg_name (i := 3) sc_is_lift.nd rfl (.inl rfl)) (pgs_cons (pg_name (i := 4) sc_is_lift.nd rfl (.inl rfl)) pgs_nil)))))
      (pss_one (ps_ret (pe_and (pe_call G1 hr rfl g1 F1.kp b1 .nil pass0 (pa_cons (pv 2) pa_nil)) (pe_and (pe_meth (pv 0) T.txt.cl mh Gh hr bh .nil pass0 (pa_cons (pv 3) pa_nil))
        (pe_one (pe_call G2 hr rfl g2 F2.kp b2 .nil pass0 (pa_cons (pv 4) pa_nil)))))))), ?_⟩
    refine ⟨.ref t, rfl, .ref t, .ty "tuple", .type "tuple", .type "tuple", true, rfl, .ty _, .base (.tup ht), kit_ty (by decide +kernel), true, rfl, noOf rfl ?_⟩
    refine ⟨.ref t, rfl, .ref t, 3, rfl, .inr ⟨_, SqT.of ht, rfl⟩, rfl, _, rfl, noOf (by decide) ?_⟩
    refine ⟨.ref t, rfl, t, _, rfl, SqT.of ht, rfl, _, _, rfl, _, _, rfl, _, _, rfl, rfl, ?_⟩
    refine ⟨.int u.beat, rfl, (u.beat : Int), rfl, (by omega), uo.hi, true, rfl, iteT ?_⟩
    obtain ⟨dx, tb, tq, lp, dn, e, z⟩ := id iw
    have pr := uo.pr
    refine ⟨.ref p, rfl, p, dx, _, rfl, e, wno _ _ _ _ _ (by decide +kernel), .int u.press, rfl, p, k, (u.press : Int), rfl, iw, _, rfl, yesOf (decide_eq_true (by omega)) ?_⟩
    exact ⟨.str (wordOf u.up), rfl, u.up, rfl, q H (Same.refl _)⟩
end
end K23
set_option Elab.async false
set_option linter.all false
set_option maxRecDepth 100000
set_option maxHeartbeats 2000000
/-! Courses are made. -/
namespace K23
open PySem PySem.Spec PyProof.Rows L2 Bp
structure CourseL where
  work : WorkL
  puts : List PutL
  lifts : List LiftL
structure CourseL.Ok (k : CourseL) : Prop where
  wk : k.work.Ok
  ps : ∀ u ∈ k.puts, u.Ok k.work
  ls : ∀ u ∈ k.lifts, u.Ok k.work
  few : k.puts.length + k.lifts.length ≤ 12
def courseF (wa tp tl : Addr) : List (Str × V) := [("_work", .ref wa), ("_puts", .ref tp), ("_lifts", .ref tl)]
theorem c_wp : ¬ (("_work" : Str) = "_puts") := by decide +kernel
theorem c_wl : ¬ (("_work" : Str) = "_lifts") := by decide +kernel
theorem c_pl : ¬ (("_puts" : Str) = "_lifts") := by decide +kernel
theorem courseF1 (wa : Addr) : putF "_work" (.ref wa) [] = ([("_work", .ref wa)] : List (Str × V)) := rfl
theorem courseF2 (wa tp : Addr) : putF "_puts" (.ref tp) ([("_work", .ref wa)] : List (Str × V)) = ([("_work", .ref wa), ("_puts", .ref tp)] : List (Str × V)) := by
  rw [putF_cons, if_neg c_wp]
  rfl
theorem courseF3 (wa tp tl : Addr) : putF "_lifts" (.ref tl) ([("_work", .ref wa), ("_puts", .ref tp)] : List (Str × V)) = courseF wa tp tl := by
  rw [putF_cons, if_neg c_wl, putF_cons, if_neg c_pl]
  rfl
theorem courseF_work (wa tp tl : Addr) : (courseF wa tp tl).lookup ("_work" : Str) = some (.ref wa) := by
  unfold courseF
  rw [lk_cons, if_pos rfl]
theorem courseF_puts (wa tp tl : Addr) : (courseF wa tp tl).lookup ("_puts" : Str) = some (.ref tp) := by
  unfold courseF
  rw [lk_cons, if_neg (fun e => c_wp e.symm), lk_cons, if_pos rfl]
theorem courseF_lifts (wa tp tl : Addr) : (courseF wa tp tl).lookup ("_lifts" : Str) = some (.ref tl) := by
  unfold courseF
  rw [lk_cons, if_neg (fun e => c_wl e.symm), lk_cons, if_neg (fun e => c_pl e.symm), lk_cons, if_pos rfl]
theorem courseF_no (wa tp tl : Addr) {m : Str} (h : (decide (m = "_work") || decide (m = "_puts") || decide (m = "_lifts")) = false) : (courseF wa tp tl).lookup m = none := by
  simp only [Bool.or_eq_false_iff, decide_eq_false_iff_not] at h
  obtain ⟨⟨a, b⟩, c⟩ := h
  unfold courseF
  rw [lk_cons, if_neg a, lk_cons, if_neg b, lk_cons, if_neg c]
  rfl
/-- what a course's fields hold -/
structure CourseAt (CW CB CP : Addr) (H : Hp) (wa tp tl : Addr) (k : CourseL) : Prop where
  wk : IsWork CW CB CP H wa k.work
  ps : ∃ m, H tp = some (.tup m) ∧ Each RPut H m k.puts
  ls : ∃ m, H tl = some (.tup m) ∧ Each RLift H m k.lifts
theorem CourseAt.same {CW CB CP wa tp tl : Addr} {H H' : Hp} {k : CourseL} (h : CourseAt CW CB CP H wa tp tl k) (s : Same H H') : CourseAt CW CB CP H' wa tp tl k := by
  obtain ⟨m, e1, h1⟩ := h.ps
  obtain ⟨n, e2, h2⟩ := h.ls
  exact ⟨h.wk.same s, ⟨m, s _ _ e1, h1.imp (RPut.kn (Kn.of s))⟩, ⟨n, s _ _ e2, h2.imp (RLift.kn (Kn.of s))⟩⟩
/-- a course stands at c -/
def IsCourse (CC CW CB CP : Addr) (H : Hp) (c : Addr) (k : CourseL) : Prop := ∃ dx wa tp tl, H c = some (.ins CC dx (courseF wa tp tl)) ∧ CourseAt CW CB CP H wa tp tl k
theorem IsCourse.same {CC CW CB CP c : Addr} {H H' : Hp} {k : CourseL} (h : IsCourse CC CW CB CP H c k) (s : Same H H') : IsCourse CC CW CB CP H' c k := by
  obtain ⟨dx, wa, tp, tl, e, z⟩ := h
  exact ⟨dx, wa, tp, tl, s _ _ e, z.same s⟩
/-- what the top says of Course -/
structure CourseTxt (K : PySem.W.Frag) (mg : Str → Option Value) (C : Addr) : Prop where
  cl : Cls K C
  nW : NoAttr K C "_work"
  nP : NoAttr K C "_puts"
  nL : NoAttr K C "_lifts"
  gC : mg "Course" = some (.ref C)
/-! all but what is at p stays -/
theorem But.puts {C p dx : Addr} {fs : List (Str × V)} {H H' : Hp} {m : List V} {us : List PutL} (b : But p H H') (hp : H p = some (.ins C dx fs)) (h : Each RPut H m us) : Each RPut H' m us :=
  h.imp fun v u ⟨t, tp, e, ht, ip⟩ => by
    have ne : ∀ {c : Addr} {xs : List V}, H c = some (.tup xs) → c ≠ p := fun ec z => by
      rw [z, hp] at ec
      cases ec
    exact ⟨t, tp, e, b _ _ (ne ht) ht, b _ _ (ne ip) ip⟩
theorem But.lifts {C p dx : Addr} {fs : List (Str × V)} {H H' : Hp} {m : List V} {us : List LiftL} (b : But p H H') (hp : H p = some (.ins C dx fs)) (h : Each RLift H m us) : Each RLift H' m us :=
  h.imp fun v u ⟨t, e, ht⟩ => by
    have ne : ∀ {c : Addr} {xs : List V}, H c = some (.tup xs) → c ≠ p := fun ec z => by
      rw [z, hp] at ec
      cases ec
    exact ⟨t, e, b _ _ (ne ht) ht⟩
theorem But.work {C CW CB CP p dx q : Addr} {H H' : Hp} {k : WorkL} (b : But p H H') (hp : H p = some (.ins C dx [])) (h : IsWork CW CB CP H q k) : IsWork CW CB CP H' q k := by
  obtain ⟨dq, tb, tp, lp, dn, e, z⟩ := h
  have nf : ∀ {c C2 d2 : Addr} {g : List (Str × V)}, H c = some (.ins C2 d2 g) → g ≠ [] → c ≠ p := fun ec ng zz => by
    rw [zz, hp] at ec
    cases ec
    exact ng rfl
  have ne : ∀ {c : Addr} {o : HO}, H c = some o → (∀ C2 d2 g, o ≠ .ins C2 d2 g) → c ≠ p := fun ec no zz => by
    rw [zz, hp] at ec
    exact no _ _ _ (Option.some.inj ec).symm
  obtain ⟨ps, e1, h1⟩ := z.bs
  obtain ⟨m, e2, h2⟩ := z.rs
  obtain ⟨l, e3, h3⟩ := z.ls
  refine ⟨dq, tb, tp, lp, dn, b _ _ (nf e (by unfold workF; simp)) e, ⟨ps, b _ _ (ne e1 (by simp)) e1, ?_⟩, ⟨m, b _ _ (ne e2 (by simp)) e2, ?_⟩, ⟨l, b _ _ (ne e3 (by simp)) e3, ?_⟩, b _ _ (ne z.ns (by simp)) z.ns⟩
  · exact b.bands hp h1
  · exact b.presses hp h2
  · exact b.places hp h3
section
variable {P : Program} {w : World} {K : PySem.W.Frag} {mg : Str → Option Value} {base : Heap} {CC CW CB CP : Addr}
abbrev NsCI : List Str := ["self", "work", "puts", "lifts", "put", "lift"]
theorem sc_Course_init : FnScope NsCI ["self", "work", "puts", "lifts"] (defScope s_Course_init) := ⟨rfl, rfl, rfl, by decide +kernel, rfl, by decide +kernel, by decide +kernel⟩
def sp_Course_init (CC CW CB CP : Addr) : Sp := fun vs H Q _ => ∃ (p dx wa lp ll : Addr) (m n : List V) (k : CourseL), vs = [.ref p, .ref wa, .ref lp, .ref ll] ∧ k.Ok ∧ IsWork CW CB CP H wa k.work ∧ H lp = some (.lst m) ∧ Each RPut H m k.puts ∧ H ll = some (.lst n) ∧ Each RLift H n k.lifts ∧
  H p = some (.ins CC dx []) ∧ ∀ H', IsCourse CC CW CB CP H' p k → (∀ c o, c ≠ p → H c = some o → H' c = some o) → Q .non H'
theorem ok_Course_init {f : Addr} {fd : FuncData} {k : Nat} {kd : List (Str × V)} (B : Blt mg) (T : CourseTxt K mg CC) (TW : WorkDefs P w K mg base CW CB CP k) (g12 : ∃ t, mg "_MOST_DEEDS" = some (.int 12 t)) (D0 : Def P w K mg base CX0 k "is_listed" s_is_listed ["thing"] sp_is_listed)
    (D1 : Def P w K mg base CX0 k "is_put" s_is_put ["work", "thing"] (sp_is_put CW CB CP)) (D2 : Def P w K mg base CX0 k "is_lift" s_is_lift ["work", "thing"] (sp_is_lift CW CB CP))
    (F : FD K "__init__" "Course.__init__" s_Course_init [] kd f fd) : FnOk P w K mg base CX0 (k + 1) f fd ["self", "work", "puts", "lifts"] (sp_Course_init CC CW CB CP) := by
  obtain ⟨f0, fd0, F0, b0, g0, G0⟩ := D0.ex
  obtain ⟨f1, fd1, F1, b1, g1, G1⟩ := D1.ex
  obtain ⟨f2, fd2, F2, b2, g2, G2⟩ := D2.ex
  obtain ⟨t12, g12⟩ := g12
  refine F.ok sc_Course_init (fun vs H Q E h => ?_) (fun cdv A outer s H vs Q E hr h => ?_)
  · obtain ⟨p, dx, wa, lp, ll, m, n, k, rfl, _⟩ := h
    rfl
  · obtain ⟨p, dx, wa, lp, ll, m, n, k, rfl, ok, iw, hlp, ep, hll, el, hp, q⟩ := h
    refine ⟨_, pss_cons (ps_if (pt_not (pt_val (pe_callB call_isi (by rfl) B.isi (by decide +kernel) (pa_cons (pv 1) (pa_cons (pe_glob (v := .ref CW) (by rfl) TW.txt.gC rfl) pa_nil))))) (pss_one ps_never) pss_nil)
      (pss_cons (ps_if (PW.pt (pw_or (pt_not (pt_val (pe_call G0 hr rfl g0 F0.kp b0 .nil pass0 (pa_cons (pv 2) pa_nil)))) (pw_or1 (pt_not (pt_val (pe_callB (cr_all rfl) (by rfl) B.all (by decide +kernel) (pa_cons (pe_lc (own := [("put", 4)]) (g := gName 4) (tt := tYes) rfl sc_Course_init.nd (pi_list (pv 2)) (blkOk_by (own := [("put", 4)]) (N := NsCI) (sc := defScope s_Course_init) (by decide +kernel))
          (fun _ _ _ _ _ => pg_name (i := 4) sc_Course_init.nd rfl (Or.inl rfl)) (fun _ _ _ _ _ => pts_nil) (fun _ _ _ _ _ => pe_call G1 hr rfl g1 F1.kp b1 .nil pass0 (pa_cons (pv 1) (pa_cons (pv 4) pa_nil)))) pa_nil))))))) (pss_one ps_never) pss_nil)
      (pss_cons (ps_if (PW.pt (pw_or (pt_not (pt_val (pe_call G0 hr rfl g0 F0.kp b0 .nil pass0 (pa_cons (pv 3) pa_nil)))) (pw_or1 (pt_not (pt_val (pe_callB (cr_all rfl) (by rfl) B.all (by decide +kernel) (pa_cons (pe_lc (own := [("lift", 5)]) (g := gName 5) (tt := tYes) rfl sc_Course_init.nd (pi_list (pv 3)) (blkOk_by (own := [("lift", 5)]) (N := NsCI) (sc := defScope s_Course_init) (by decide +kernel))
          (fun _ _ _ _ _ => pg_name (i := 5) sc_Course_init.nd rfl (Or.inl rfl)) (fun _ _ _ _ _ => pts_nil) (fun _ _ _ _ _ => pe_call G2 hr rfl g2 F2.kp b2 .nil pass0 (pa_cons (pv 1) (pa_cons (pv 5) pa_nil)))) pa_nil))))))) (pss_one ps_never) pss_nil)
      (pss_cons (ps_if (pt_cmpR op_gt (pe_op op_add (pe_callB call_len (by rfl) B.len PySem.boot_len (pa_cons (pv 2) pa_nil)) (pe_callB call_len (by rfl) B.len PySem.boot_len (pa_cons (pv 3) pa_nil))) (pe_glob (v := .int 12) (by rfl) g12 ⟨_, rfl⟩) (nomark _)) (pss_one ps_never) pss_nil)
      (pss_cons (ps_fld (pv 0) (pv 1) rfl)
      (pss_cons (ps_fld (pv 0) (pe_callTy call_tuple_of (by rfl) B.tuple (by decide +kernel) (pa_cons (pv 2) pa_nil)) rfl)
      (pss_one (ps_fld (pv 0) (pe_callTy call_tuple_of (by rfl) B.tuple (by decide +kernel) (pa_cons (pv 3) pa_nil)) rfl))))))), ?_⟩
    have few := ok.few
    obtain ⟨dw, tb0, tp0, lp0, dn0, ew, zw⟩ := id iw
    refine ⟨.ref wa, rfl, .ref wa, .ref CW, .ref CW, .ref CW, true, rfl, .own CW, TW.isi.ty TW.txt.cl ew, TW.isi.self, true, rfl, noOf rfl ?_⟩
    -- puts
    refine ⟨.ref lp, rfl, lp, rfl, .inl ⟨_, hlp⟩, fun H1 s1 => ⟨true, rfl, noOf rfl ?_⟩⟩
    refine ⟨.ref lp, rfl, lp, rfl, ⟨_, SqL.of (s1 _ _ hlp)⟩, fun D nD => ?_⟩
    refine lc_true (H := H1) (walk_list (K := K) (a := lp) (xs := m)) (fun H2 sm => SqL.of (sm _ _ (s1 _ _ hlp))) (by rw [ep.1]; omega) nD ?_ ?_ mono_name
    · rintro i x H2 H3 Qy hi sm ⟨rfl, hx⟩ qy
      have sm2 := s1.trans sm
      obtain ⟨u, eu, ru⟩ := (ep.imp (RPut.kn (Kn.of sm2))).at_ hx
      exact ⟨rfl, .ref wa, rfl, x, rfl, wa, x, k.work, u, rfl, iw.same sm2, ok.wk, ru, ok.ps u (List.mem_of_getElem? eu), fun H4 s4 => qy _ s4⟩
    intro H2 s2 hD
    refine ⟨D, _, rfl, SqL.of hD, ?_⟩
    rw [all_true]
    refine ⟨true, rfl, noOf rfl ?_⟩
    have s12 := s1.trans s2
    -- lifts
    refine ⟨.ref ll, rfl, ll, rfl, .inl ⟨_, s12 _ _ hll⟩, fun H3 s3 => ⟨true, rfl, noOf rfl ?_⟩⟩
    have s13 := s12.trans s3
    refine ⟨.ref ll, rfl, ll, rfl, ⟨_, SqL.of (s13 _ _ hll)⟩, fun D2 nD2 => ?_⟩
    refine lc_true (H := H3) (walk_list (K := K) (a := ll) (xs := n)) (fun H2 sm => SqL.of (sm _ _ (s13 _ _ hll))) (by rw [el.1]; omega) nD2 ?_ ?_ mono_name
    · rintro i x H4 H5 Qy hi sm ⟨rfl, hx⟩ qy
      have sm2 := s13.trans sm
      obtain ⟨u, eu, ru⟩ := (el.imp (RLift.kn (Kn.of sm2))).at_ hx
      exact ⟨rfl, .ref wa, rfl, x, rfl, wa, x, k.work, u, rfl, iw.same sm2, ru, ok.ls u (List.mem_of_getElem? eu), fun H4 s4 => qy _ s4⟩
    intro H4 s4 hD2
    refine ⟨D2, _, rfl, SqL.of hD2, ?_⟩
    rw [all_true]
    refine ⟨true, rfl, noOf rfl ?_⟩
    have s14 := s13.trans s4
    refine ⟨.ref lp, rfl, .ref lp, k.puts.length, rfl, .inl ⟨_, SqL.of (s14 _ _ hlp), ep.1.symm⟩, .ref ll, rfl, .ref ll, k.lifts.length, rfl, .inl ⟨_, SqL.of (s14 _ _ hll), el.1.symm⟩, _, _, rfl, rfl, _, 12, rfl, rfl, _, rfl, noOf (decide_eq_false ?_) ?_⟩
    · show ¬ (12 : Int) < (k.puts.length : Int) + (k.lifts.length : Int)
      omega
    -- the fields
    refine ⟨.ref wa, rfl, .ref p, rfl, p, CC, dx, _, rfl, s14 _ _ hp, T.cl, T.nW, (by show 0 < 1000; decide), ?_⟩
    rw [courseF1]
    have pb : lp ≠ p := ne_of hlp hp (by intro z; cases z)
    have pq : ll ≠ p := ne_of hll hp (by intro z; cases z)
    have bt5 : But p H (upd H4 p (.ins CC dx [("_work", .ref wa)])) := (But.of s14).trans (But.put _)
    refine ⟨.ref lp, rfl, lp, m, rfl, .inl ⟨SqL.of (bt5 _ _ pb hlp), fun tp ntp => ?_⟩⟩
    have p5 : p ≠ tp := ne_of_none upd_same ntp
    refine ⟨.ref p, rfl, p, CC, dx, _, rfl, (by rw [upd_ne p5, upd_same]), T.cl, T.nP, (by show 1 < 1000; decide), ?_⟩
    rw [courseF2]
    generalize hH7 : upd (upd (upd H4 p (.ins CC dx [("_work", .ref wa)])) tp (.tup m)) p (.ins CC dx [("_work", .ref wa), ("_puts", .ref tp)]) = H7
    have bt7 : But p H H7 := by
      rw [← hH7]
      exact (bt5.trans (But.of (same_new ntp))).trans (But.put _)
    have at7 : H7 p = some (.ins CC dx [("_work", .ref wa), ("_puts", .ref tp)]) := by rw [← hH7, upd_same]
    have tp7 : H7 tp = some (.tup m) := by rw [← hH7, upd_ne p5.symm, upd_same]
    refine ⟨.ref ll, rfl, ll, n, rfl, .inl ⟨SqL.of (bt7 _ _ pq hll), fun tl ntl => ?_⟩⟩
    have p7 : p ≠ tl := ne_of_none at7 ntl
    refine ⟨.ref p, rfl, p, CC, dx, _, rfl, (by rw [upd_ne p7]; exact at7), T.cl, T.nL, (by show 2 < 1000; decide), ?_⟩
    rw [courseF3]
    generalize hH9 : upd (upd H7 tl (.tup n)) p (.ins CC dx (courseF wa tp tl)) = H9
    have bt79 : But p H7 H9 := by
      rw [← hH9]
      exact (But.of (same_new ntl)).trans (But.put _)
    have bt9 : But p H H9 := bt7.trans bt79
    refine q H9 ⟨dx, wa, tp, tl, (by rw [← hH9, upd_same]), bt9.work hp iw, ⟨m, bt79 _ _ p5.symm tp7, bt9.puts hp ep⟩, ⟨n, by rw [← hH9, upd_ne p7.symm, upd_same], bt9.lifts hp el⟩⟩ bt9
end
end K23
set_option Elab.async false
set_option linter.all false
set_option maxRecDepth 100000
set_option maxHeartbeats 2000000
/-! What courses tell: which presses work, what is laid. -/
namespace K23
open PySem PySem.Spec PyProof.Rows L2 Bp
/-- the last lift of a press at a beat below b -/
def upStep (i : Nat) (b : Int) (s : Nat × Bool) (u : LiftL) : Nat × Bool := if u.press = i ∧ s.1 ≤ u.beat ∧ (u.beat : Int) < b then (u.beat, u.up) else s
def upFold (ls : List LiftL) (i : Nat) (b : Int) : Nat × Bool := ls.foldl (upStep i b) (0, false)
/-- the sign of a rhythm at a beat is an x -/
def downAt (m : List Nat) (b : Int) : Bool := decide (m[((b - 1) % (m.length : Int)).toNat]? = some 120)
def worksL (rs : List PressL) (ls : List LiftL) (i : Nat) (b : Int) : Bool := match rs[i]? with
  | some r => downAt r.rhythm b && !(upFold ls i b).2
  | none => false
/-- what is laid at a beat -/
def laidStep (b : Int) (d : List (List Key × V)) (u : PutL) : List (List Key × V) := if (u.beat : Int) = b then putK d (keyOf u.place) (.str (tx [u.sign])) else d
def laidD (us : List PutL) (b : Int) : List (List Key × V) := us.foldl (laidStep b) []
def lastStep (b : Int) (s : PlaceL) (o : Option Nat) (u : PutL) : Option Nat := if (u.beat : Int) = b ∧ u.place = s then some u.sign else o
/-- the sign that is laid at a place last -/
def lastL (us : List PutL) (b : Int) (s : PlaceL) : Option Nat := us.foldl (lastStep b s) none
def laidL (pls : List PlaceL) (us : List PutL) (b : Int) : List (PlaceL × Nat) := pls.filterMap fun s => (lastL us b s).map fun c => (s, c)
theorem laidD_len (b : Int) : ∀ (us : List PutL) (d : List (List Key × V)), (us.foldl (laidStep b) d).length ≤ d.length + us.length
  | [], d => Nat.le_refl _
  | u :: us, d => by
    have ih := laidD_len b us (laidStep b d u)
    have one : (laidStep b d u).length ≤ d.length + 1 := by
      unfold laidStep
      split
      · exact length_putK _ _ _
      · omega
    show (us.foldl (laidStep b) (laidStep b d u)).length ≤ _
    rw [List.length_cons]
    omega
theorem laidD_val (b : Int) (s : PlaceL) : ∀ (us : List PutL) (d : List (List Key × V)) (o : Option Nat), valV d (keyOf s) = o.map (fun c => V.str (tx [c])) → valV (us.foldl (laidStep b) d) (keyOf s) = (us.foldl (lastStep b s) o).map fun c => V.str (tx [c])
  | [], d, o, h => h
  | u :: us, d, o, h => by
    refine laidD_val b s us (laidStep b d u) (lastStep b s o u) ?_
    unfold laidStep lastStep
    by_cases c : (u.beat : Int) = b
    · rw [if_pos c, valV_put]
      by_cases e : u.place = s
      · rw [if_pos (by rw [e]), if_pos ⟨c, e⟩]
        rfl
      · rw [if_neg (fun z => e (keyOf_inj z.symm)), if_neg (fun z => e z.2)]
        exact h
    · rw [if_neg c, if_neg (fun z => c z.1)]
      exact h
theorem laidD_get (us : List PutL) (b : Int) (s : PlaceL) : valV (laidD us b) (keyOf s) = (lastL us b s).map fun c => V.str (tx [c]) := laidD_val b s us [] none rfl
def RLaid : Hp → V → PlaceL × Nat → Prop := fun H v u => ∃ t tp, v = .ref t ∧ H t = some (.tup [.ref tp, .str (tx [u.2])]) ∧ IsPlace H tp u.1
theorem RLaid.kn {H H' : Hp} (k : Kn H H') : ∀ v u, RLaid H v u → RLaid H' v u := fun v u ⟨t, tp, e, h, ip⟩ => ⟨t, tp, e, k _ _ (by intro xs z; cases z) h, ip.kn k⟩
theorem none_back {H H' : Hp} {D : Addr} (s : Same H H') (n : H' D = none) : H D = none := by
  cases hz : H D with
  | none => rfl
  | some o =>
    rw [s _ _ hz] at n
    cases n
theorem laidL_len (pls : List PlaceL) (us : List PutL) (b : Int) : (laidL pls us b).length ≤ pls.length := List.length_filterMap_le _ _
section
variable {P : Program} {w : World} {K : PySem.W.Frag} {mg : Str → Option Value} {base : Heap} {CC CW CB CP : Addr}
def sp_Course_work (CC CW CB CP : Addr) : Sp := fun vs H Q _ => ∃ (c : Addr) (k : CourseL), vs = [.ref c] ∧ IsCourse CC CW CB CP H c k ∧ ∀ wa, IsWork CW CB CP H wa k.work → Q (.ref wa) H
theorem ok_Course_work {f : Addr} {fd : FuncData} {k : Nat} (T : CourseTxt K mg CC) (F : Fun K "work" "Course.work" s_Course_work f fd) : FnOk P w K mg base CX0 (k + 1) f fd ["self"] (sp_Course_work CC CW CB CP) := by
  refine F.ok (N := ["self"]) ⟨rfl, rfl, rfl, by decide +kernel, rfl, by decide +kernel, by decide +kernel⟩ (fun vs H Q E h => ?_) (fun cdv A outer s H vs Q E hr h => ?_)
  · obtain ⟨c, k, rfl, _⟩ := h
    rfl
  · obtain ⟨c, k, rfl, ⟨dx, wa, tp, tl, e, z⟩, q⟩ := h
    refine ⟨_, pss_one (ps_ret (pe_fld (pv 0) rfl)), ?_⟩
    exact ⟨.ref c, rfl, c, CC, dx, _, _, rfl, e, T.cl, T.nW, courseF_work _ _ _, q _ z.wk⟩
/-! ### _is_up -/
abbrev NsUp : List Str := ["self", "press", "beat", "last", "last_word", "told", "number", "word"]
theorem sc_is_up : FnScope NsUp ["self", "press", "beat"] (defScope s_Course_is_up) := ⟨rfl, rfl, rfl, by decide +kernel, rfl, by decide +kernel, by decide +kernel⟩
def sp_is_up (CC CW CB CP : Addr) : Sp := fun vs H Q _ => ∃ (c : Addr) (k : CourseL) (i : Nat) (b : Int), vs = [.ref c, .int i, .int b] ∧ IsCourse CC CW CB CP H c k ∧ Q (.bl (upFold k.lifts i b).2) H
theorem word_up (b : Bool) : (decide (V.str (wordOf b) = V.str "up")) = b := by
  cases b
  · exact by decide +kernel
  · exact decide_eq_true rfl
theorem ok_is_up {f : Addr} {fd : FuncData} {k : Nat} (T : CourseTxt K mg CC) (F : Fun K "_is_up" "Course._is_up" s_Course_is_up f fd) : FnOk P w K mg base CX0 (k + 1) f fd ["self", "press", "beat"] (sp_is_up CC CW CB CP) := by
  refine F.ok sc_is_up (fun vs H Q E h => ?_) (fun cdv A outer s H vs Q E hr h => ?_)
  · obtain ⟨c, k, i, b, rfl, _⟩ := h
    rfl
  · obtain ⟨c, k, i, b, rfl, ⟨dx, wa, tp, tl, e, z⟩, q⟩ := h
    refine ⟨_, pss_cons (ps_set (i := 3) sc_is_up.nd rfl (.inl rfl) pe_int)
      (pss_cons (ps_set (i := 4) sc_is_up.nd rfl (.inl rfl) pe_str)
      (pss_cons (ps_for PassesOwn.never rfl (pi_tup (pe_fld (pv 0) rfl)) (pg_tup rfl (pgs_cons (pg_name (i := 5) sc_is_up.nd rfl (Or.inl rfl)) (pgs_cons (pg_name (i := 6) sc_is_up.nd rfl (Or.inl rfl)) (pgs_cons (pg_name (i := 7) sc_is_up.nd rfl (Or.inl rfl)) pgs_nil))))
        (pss_one (ps_if (PW.pt (pw_and (pt_cmpR op_eq (pv 6) (pv 1) (nomark _)) (pw_and1 (pt_chain op_le op_lt (pv 3) (pv 5) (pv 2)))))
          (pss_cons (ps_set (i := 3) sc_is_up.nd rfl (.inl rfl) (pv 5)) (pss_one (ps_set (i := 4) sc_is_up.nd rfl (.inl rfl) (pv 7)))) pss_nil)))
      (pss_one (ps_ret (pe_cmpR op_eq (pv 4) pe_str (nomark _)))))), ?_⟩
    obtain ⟨n, hn, el⟩ := z.ls
    refine ⟨.ref c, rfl, c, CC, dx, _, _, rfl, e, T.cl, T.nL, courseF_lifts _ _ _, tl, rfl, ⟨_, SqT.of hn⟩, ?_⟩
    refine for_it (walk_tup (K := K) (a := tl) (xs := n)) (fun j σ H1 => ∃ v5 v6 v7 : Option V, σ = [some (.ref c), some (.int i), some (.int b), some (.int (upFold (k.lifts.take j) i b).1), some (.str (wordOf (upFold (k.lifts.take j) i b).2)), v5, v6, v7] ∧ H1 = H) ⟨none, none, none, rfl, rfl⟩
      (fun j σ H1 _ z => by obtain ⟨_, _, _, _, rfl⟩ := z; exact SqT.of hn) ?_ ?_
    · rintro j x σ H1 H1' hj ⟨v5, v6, v7, rfl, rfl⟩ ⟨rfl, hx⟩
      obtain ⟨u, eu, t, rfl, ht⟩ := el.at_ hx
      refine ⟨t, _, rfl, SqT.of ht, rfl, _, _, rfl, _, _, rfl, _, _, rfl, rfl, ?_⟩
      have nx : upFold (k.lifts.take (j + 1)) i b = upStep i b (upFold (k.lifts.take j) i b) u := by
        rw [List.take_add_one, eu]
        unfold upFold
        show ((k.lifts.take j) ++ [u]).foldl _ _ = _
        rw [List.foldl_append]
        rfl
      generalize upFold (k.lifts.take j) i b = st at nx
      obtain ⟨la, lw⟩ := st
      unfold upStep at nx
      refine ⟨.int u.press, rfl, .int i, rfl, rfl, _, rfl, ?_⟩
      by_cases c1 : u.press = i
      · refine yesOf (decide_eq_true (by rw [c1])) ?_
        refine ⟨.int la, rfl, .int u.beat, rfl, (la : Int), (u.beat : Int), rfl, rfl, _, rfl, ?_⟩
        by_cases c2 : la ≤ u.beat
        · refine yesOf (decide_eq_true (by omega)) ?_
          refine ⟨.int b, rfl, (u.beat : Int), b, rfl, rfl, _, rfl, ?_⟩
          by_cases c3 : (u.beat : Int) < b
          · refine yesOf (decide_eq_true c3) ?_
            rw [if_pos ⟨c1, c2, c3⟩] at nx
            exact ⟨_, rfl, _, rfl, _, _, _, by rw [nx]; rfl, rfl⟩
          · refine noOf (decide_eq_false c3) ?_
            rw [if_neg (fun h => c3 h.2.2)] at nx
            exact ⟨_, _, _, by rw [nx]; rfl, rfl⟩
        · refine noOf (decide_eq_false (by omega)) ⟨_, rfl, noOf rfl ?_⟩
          rw [if_neg (fun h => c2 h.2.1)] at nx
          exact ⟨_, _, _, by rw [nx]; rfl, rfl⟩
      · refine noOf (decide_eq_false (by intro h; exact c1 (Int.ofNat.inj (V.int.inj h)))) ?_
        rw [if_neg (fun h => c1 h.1)] at nx
        exact ⟨_, _, _, by rw [nx]; rfl, rfl⟩
    · rintro σ H1 ⟨v5, v6, v7, rfl, rfl⟩
      rw [el.1, List.take_length]
      refine ⟨_, rfl, rfl, ?_⟩
      rw [word_up]
      exact q
/-! ### works -/
theorem sc_works : FnScope ["self", "press", "beat", "rhythm"] ["self", "press", "beat"] (defScope s_Course_works) := ⟨rfl, rfl, rfl, by decide +kernel, rfl, by decide +kernel, by decide +kernel⟩
def sp_works (CC CW CB CP : Addr) : Sp := fun vs H Q _ => ∃ (c : Addr) (k : CourseL) (i : Nat) (b : Int), vs = [.ref c, .int i, .int b] ∧ IsCourse CC CW CB CP H c k ∧ k.work.Ok ∧ i < k.work.presses.length ∧ ∀ H', Same H H' → Q (.bl (worksL k.work.presses k.lifts i b)) H'
theorem x_sign (c : Nat) : decide (V.str (tx [c]) = V.str "x") = decide (c = 120) := by
  by_cases h : c = 120
  · rw [h]
    exact by decide +kernel
  · rw [decide_eq_false h]
    refine decide_eq_false fun e => h ?_
    have e2 : tx [c] = tx [120] := (V.str.inj e).trans (by decide +kernel)
    exact (List.cons.inj (tx_inj e2)).1
theorem ok_works {f fu : Addr} {fd fdu : FuncData} {k : Nat} (B : Blt mg) (T : CourseTxt K mg CC) (TW : WorkDefs P w K mg base CW CB CP k) (TP : PressDefs P w K mg base CP k) (mu : Meth K CC "_is_up" fu) (bu : Binds K fdu ["self", "press", "beat"] []) (Gu : FnOk P w K mg base CX0 k fu fdu ["self", "press", "beat"] (sp_is_up CC CW CB CP))
    (F : Fun K "works" "Course.works" s_Course_works f fd) : FnOk P w K mg base CX0 (k + 1) f fd ["self", "press", "beat"] (sp_works CC CW CB CP) := by
  obtain ⟨fh, fdh, mh, bh, Gh⟩ := TW.has_press
  obtain ⟨fp, fdp, mp, bp, Gp⟩ := TW.presses
  obtain ⟨fr, fdr, mr, br, Gr⟩ := TP.rhythm
  refine F.ok sc_works (fun vs H Q E h => ?_) (fun cdv A outer s H vs Q E hr h => ?_)
  · obtain ⟨c, k, i, b, rfl, _⟩ := h
    rfl
  · obtain ⟨c, k, i, b, rfl, ic, ok, hi, q⟩ := h
    refine ⟨_, pss_cons (ps_if (pt_not (pt_val (pe_meth (pe_fld (pv 0) rfl) TW.txt.cl mh Gh hr bh .nil pass0 (pa_cons (pv 1) pa_nil)))) (pss_one ps_never) pss_nil)
      (pss_cons (ps_set (i := 3) sc_works.nd rfl (.inl rfl) (pe_meth0 (pe_ix ix_list (pe_meth0 (pe_fld (pv 0) rfl) TW.txt.cl mp Gp hr bp .nil pass0) (pv 1) (fun _ _ => rfl)) TP.txt.cl mr Gr hr br .nil pass0))
      (pss_one (ps_ret (pe_and (pe_cmpR op_eq (pe_ix ix_str (pv 3) (pe_op op_mod (pe_op op_sub (pv 2) pe_int) (pe_callB call_len (by rfl) B.len PySem.boot_len (pa_cons (pv 3) pa_nil))) (fun _ _ => rfl)) pe_str (nomark _))
        (pe_one (pe_not (pe_meth (pv 0) T.cl mu Gu hr bu .nil pass0 (pa_cons (pv 1) (pa_cons (pv 2) pa_nil))))))))), ?_⟩
    obtain ⟨dx, wa, tp, tl, e, z⟩ := id ic
    obtain ⟨dw, tb, tq, lp, dn, ew, zw⟩ := id z.wk
    refine ⟨.ref c, rfl, c, CC, dx, _, _, rfl, e, T.cl, T.nW, courseF_work _ _ _, wa, dw, _, rfl, ew, wno _ _ _ _ _ (by decide +kernel), .int i, rfl, wa, k.work, (i : Int), rfl, z.wk, _, rfl, noOf (by rw [decide_eq_true (by omega)]; rfl) ?_⟩
    refine ⟨.ref c, rfl, c, CC, dx, _, _, rfl, e, T.cl, T.nW, courseF_work _ _ _, wa, dw, _, rfl, ew, wno _ _ _ _ _ (by decide +kernel), wa, k.work, rfl, z.wk, fun l m H1 s1 hl pr => ?_⟩
    have er : k.work.presses[i]? = some k.work.presses[i] := List.getElem?_eq_getElem hi
    obtain ⟨v, ev, pa, rfl, ip⟩ := pr.of er
    obtain ⟨dp, a1, a2, a3, ep, _⟩ := id ip
    refine ⟨.int i, rfl, l, _, _, _, rfl, rfl, SqL.of hl, atI_nat ev, pa, dp, _, rfl, ep, no_rhythm _ _ _ _, pa, k.work.presses[i], rfl, ip, ?_⟩
    generalize hR : k.work.presses[i] = r at er
    have rh : RhythmOk r.rhythm := by
      have fw := ok.fit r (List.mem_of_getElem? er)
      exact fw.ok.rh
    have lo := rh.lo
    have hi6 := rh.hi
    refine ⟨.str (tx r.rhythm), rfl, .int b, rfl, b, 1, rfl, rfl, .str (tx r.rhythm), rfl, .str (tx r.rhythm), r.rhythm.length, rfl, ⟨fit_tx (by omega), (tx_len _).symm⟩, b - 1, (r.rhythm.length : Int), rfl, rfl, (by show (0 : Int) < (r.rhythm.length : Int); omega), ?_⟩
    have m0 : 0 ≤ (b - 1) % (r.rhythm.length : Int) := Int.emod_nonneg _ (by omega)
    have m1 : (b - 1) % (r.rhythm.length : Int) < (r.rhythm.length : Int) := Int.emod_lt_of_pos _ (by omega)
    have dA : downAt r.rhythm b = decide (r.rhythm[((b - 1) % (r.rhythm.length : Int)).toNat]? = some 120) := rfl
    obtain ⟨j, hj⟩ : ∃ j : Nat, (b - 1) % (r.rhythm.length : Int) = (j : Int) := ⟨_, (Int.toNat_of_nonneg m0).symm⟩
    rw [hj, Int.toNat_natCast] at dA
    have jl : j < r.rhythm.length := by omega
    have at_ : r.rhythm[j]? = some r.rhythm[j] := List.getElem?_eq_getElem jl
    rw [at_] at dA
    generalize r.rhythm[j] = ch at dA at_
    have q1 : ∀ H', Same H H' → Q (.bl (downAt r.rhythm b && !(upFold k.lifts i b).2)) H' := fun H' s' => by
      have := q H' s'
      unfold worksL at this
      rw [er] at this
      exact this
    refine ⟨tx r.rhythm, _, ch, rfl, rfl, fit_tx (by omega), ?_, rfl, _, rfl, ?_⟩
    · rw [tx_list, hj]
      exact atI_nat at_
    by_cases c1 : ch = 120
    · refine yesOf ((x_sign ch).trans (decide_eq_true c1)) ?_
      have dT : downAt r.rhythm b = true := by
        rw [dA, c1]
        exact decide_eq_true rfl
      rw [dT, Bool.true_and] at q1
      exact ⟨.ref c, rfl, c, dx, _, rfl, s1 _ _ e, courseF_no _ _ _ (by decide +kernel), .int i, rfl, .int b, rfl, c, k, i, b, rfl, ic.same s1, _, rfl, q1 H1 s1⟩
    · refine noOf ((x_sign ch).trans (decide_eq_false c1)) ?_
      have dF : downAt r.rhythm b = false := by
        rw [dA]
        exact decide_eq_false (fun z => c1 (Option.some.inj z))
      rw [dF, Bool.false_and] at q1
      exact q1 H1 s1
/-! ### laid -/
abbrev NsLd : List Str := ["self", "beat", "found", "told", "place", "sign"]
theorem sc_laid : FnScope NsLd ["self", "beat"] (defScope s_Course_laid) := ⟨rfl, rfl, rfl, by decide +kernel, rfl, by decide +kernel, by decide +kernel⟩
def sp_laid (CC CW CB CP : Addr) : Sp := fun vs H Q _ => ∃ (c : Addr) (k : CourseL) (b : Int), vs = [.ref c, .int b] ∧ IsCourse CC CW CB CP H c k ∧ k.Ok ∧ ∀ l m H', Same H H' → H l = none → H' l = some (.lst m) → Each RLaid H' m (laidL k.work.places k.puts b) → Q (.ref l) H'
theorem ok_laid {f : Addr} {fd : FuncData} {k : Nat} (T : CourseTxt K mg CC) (TW : WorkDefs P w K mg base CW CB CP k) (F : Fun K "laid" "Course.laid" s_Course_laid f fd) : FnOk P w K mg base CX0 (k + 1) f fd ["self", "beat"] (sp_laid CC CW CB CP) := by
  obtain ⟨fp, fdp, mp, bp, Gp⟩ := TW.places
  refine F.ok sc_laid (fun vs H Q E h => ?_) (fun cdv A outer s H vs Q E hr h => ?_)
  · obtain ⟨c, k, b, rfl, _⟩ := h
    rfl
  · obtain ⟨c, k, b, rfl, ic, ok, q⟩ := h
    refine ⟨_, pss_cons (ps_set (i := 2) sc_laid.nd rfl (.inr rfl) pe_dnewT)
      (pss_cons (ps_for PassesOwn.never rfl (pi_tup (pe_fld (pv 0) rfl)) (pg_tup rfl (pgs_cons (pg_name (i := 3) sc_laid.nd rfl (Or.inl rfl)) (pgs_cons (pg_name (i := 4) sc_laid.nd rfl (Or.inl rfl)) (pgs_cons (pg_name (i := 5) sc_laid.nd rfl (Or.inl rfl)) pgs_nil))))
        (pss_one (ps_if (pt_cmpR op_eq (pv 3) (pv 1) (nomark _)) (pss_one (ps_dput (hu_of hr) (pv 2) (pv 4) (pv 5) rfl)) pss_nil)))
      (pss_one (ps_ret (pe_lc (own := [("place", 4)]) (g := gName 4) rfl sc_laid.nd (pi_list (pe_meth0 (pe_fld (pv 0) rfl) TW.txt.cl mp Gp hr bp .nil pass0)) (blkOk_by (own := [("place", 4)]) (N := NsLd) (sc := defScope s_Course_laid) (by decide +kernel))
        (fun _ _ _ _ _ => pg_name (i := 4) sc_laid.nd rfl (Or.inl rfl)) (fun _ _ _ _ _ => pts_one (pt_cmp (pc_din (hu_of hr) (pv 4) (pv 2)))) (fun _ _ _ _ _ => pe_tup (pa_cons (pv 4) (pa_cons (pe_dget (hu_of hr) (pv 2) (pv 4) (fun _ _ => rfl)) pa_nil))))))), ?_⟩
    obtain ⟨dx, wa, tp, tl, e, z⟩ := id ic
    obtain ⟨dw, tb, tq, lp, dn, ew, zw⟩ := id z.wk
    obtain ⟨m, hm, em⟩ := z.ps
    have few := ok.few
    refine fun d nd => ?_
    have sd : Same H (upd H d (.dT [])) := same_new nd
    refine ⟨.ref c, rfl, c, CC, dx, _, _, rfl, sd _ _ e, T.cl, T.nP, courseF_puts _ _ _, tp, rfl, ⟨_, SqT.of (sd _ _ hm)⟩, ?_⟩
    refine for_it (walk_tup (K := K) (a := tp) (xs := m)) (fun j σ H1 => ∃ v3 v4 v5 : Option V, σ = [some (.ref c), some (.int b), some (.ref d), v3, v4, v5] ∧ Same H H1 ∧ H1 d = some (.dT (laidD (k.puts.take j) b))) ⟨none, none, none, rfl, sd, upd_same⟩
      (fun j σ H1 _ z => by obtain ⟨_, _, _, _, sm, _⟩ := z; exact SqT.of (sm _ _ hm)) ?_ ?_
    · rintro j x σ H1 H1' hj ⟨v3, v4, v5, rfl, sm, hd⟩ ⟨rfl, hx⟩
      obtain ⟨u, eu, t, tq, rfl, ht, ip⟩ := (em.imp (RPut.kn (Kn.of sm))).at_ hx
      refine ⟨t, _, rfl, SqT.of ht, rfl, _, _, rfl, _, _, rfl, _, _, rfl, rfl, ?_⟩
      have nx : laidD (k.puts.take (j + 1)) b = laidStep b (laidD (k.puts.take j) b) u := by
        rw [List.take_add_one, eu]
        unfold laidD
        show ((k.puts.take j) ++ [u]).foldl _ _ = _
        rw [List.foldl_append]
        rfl
      have ln : (laidD (k.puts.take j) b).length ≤ 12 := by
        have := laidD_len b (k.puts.take j) []
        rw [List.length_take] at this
        show (List.foldl (laidStep b) [] _).length ≤ 12
        have h0 : ([] : List (List Key × V)).length = 0 := rfl
        omega
      unfold laidStep at nx
      refine ⟨.int u.beat, rfl, .int b, rfl, rfl, _, rfl, ?_⟩
      by_cases c1 : (u.beat : Int) = b
      · refine yesOf (decide_eq_true (by rw [c1])) ?_
        rw [if_pos c1] at nx
        refine ⟨.str (tx [u.sign]), rfl, .ref d, rfl, .ref tq, rfl, d, _, rfl, .inr ⟨_, keyOf u.place, tq, hd, rfl, by rw [keyOf_vals]; exact ip, small1000 (by omega), rfl⟩, _, _, _, rfl, ?_, ?_⟩
        · intro a o ea
          rw [upd_ne (ne_of_none ea nd)]
          exact sm _ _ ea
        · rw [upd_same, nx]
      · refine noOf (decide_eq_false (by intro h; exact c1 (V.int.inj h))) ?_
        rw [if_neg c1] at nx
        exact ⟨_, _, _, rfl, sm, by rw [nx]; exact hd⟩
    · rintro σ H1 ⟨v3, v4, v5, rfl, sm, hd⟩
      rw [em.1, List.take_length] at hd
      refine ⟨.ref c, rfl, c, CC, dx, _, _, rfl, sm _ _ e, T.cl, T.nW, courseF_work _ _ _, wa, dw, _, rfl, sm _ _ ew, wno _ _ _ _ _ (by decide +kernel), wa, k.work, rfl, z.wk.same sm, fun l pls H2 s2 nl hl ep => ?_⟩
      have p40 : k.work.places.length ≤ 40 := by
        show (placesL k.work.bands).length ≤ 40
        rw [placesL_len]
        exact ok.wk.bs.all
      refine ⟨l, rfl, ⟨_, SqL.of hl⟩, fun D nD => ?_⟩
      refine lc_v (H := H2) (walk_list (K := K) (a := l) (xs := pls)) (fun H3 sm => SqL.of (sm _ _ hl)) (fun i H3 r => Each RLaid H3 r (laidL (k.work.places.take i) k.puts b)) (fun _ => Each.nil) (fun i _ r _ er => ?_) (fun _ _ _ _ kn er => er.imp (RLaid.kn kn)) nD ?_ ?_
      · rw [er.1]
        have := laidL_len (k.work.places.take i) k.puts b
        rw [List.length_take] at this
        omega
      · rintro i x H3 H4 r Qy Qn hi sm3 er ⟨rfl, hx⟩ qy qn
        obtain ⟨s1, es, t, rfl, ip⟩ := (ep.imp (RPlace.kn (Kn.of sm3))).at_ hx
        have hd3 := sm3 _ _ (s2 _ _ hd)
        have val := laidD_get k.puts b s1
        have nx : laidL (k.work.places.take (i + 1)) k.puts b = laidL (k.work.places.take i) k.puts b ++ ((lastL k.puts b s1).map fun c => (s1, c)).toList := by
          rw [List.take_add_one, es]
          unfold laidL
          show List.filterMap _ ((k.work.places.take i) ++ [s1]) = _
          rw [List.filterMap_append]
          congr 1
        have g := DGet.t (k := keyOf s1) hd3 (by rw [keyOf_vals]; exact ip)
        refine ⟨rfl, .ref t, rfl, .ref d, rfl, d, _, rfl, g, ?_⟩
        rw [val] at g ⊢
        cases hL : lastL k.puts b s1 with
        | none =>
          rw [hL] at nx
          refine ⟨_, rfl, noOf rfl ?_⟩
          refine qn _ (Same.refl _) ?_
          rw [nx]
          show Each RLaid _ r (_ ++ [])
          rw [List.append_nil]
          exact er
        | some cc =>
          rw [hL] at nx g
          refine ⟨_, rfl, yesOf rfl ?_⟩
          refine ⟨.ref t, rfl, .ref d, rfl, .ref t, rfl, d, _, rfl, g, (by show 2 ≤ sizeLine; decide), fun u nu => ?_⟩
          refine qy _ _ (same_new nu) ?_
          rw [nx]
          refine (er.imp (RLaid.kn (Kn.new nu))).snoc ⟨u, t, rfl, upd_same, ip.kn (Kn.new nu)⟩
      · intro H3 r s3 er hD
        rw [ep.1, List.take_length] at er
        exact q D r H3 (sm.trans (s2.trans s3)) (none_back (sm.trans s2) nD) hD er
end
end K23
set_option Elab.async false
set_option linter.all false
set_option maxRecDepth 100000
/-! zip of two texts, walked. -/
namespace Bp
open PySem PySem.Spec PyProof.Rows L2
theorem str_iter_at {h h' : Heap} {it : Addr} {T : String} {x : Str} {t : Tok} {i : Nat} (s : h.IsStrIter it T x t i) (k : ∀ o, h.get? it = some o → h'.get? it = some o) : h'.IsStrIter it T x t i := by
  obtain ⟨o, e, r⟩ := s
  exact ⟨o, k o e, r⟩
/-- a new pair of the i-th signs of two texts -/
def ItzS (x y : Str) : It :=
  ⟨fun i _ => i < x.cps.size ∧ i < y.cps.size,
   fun i H v H' => ∃ T c d, v = .ref T ∧ H T = none ∧ H' = upd H T (.tup [.str ⟨#[c]⟩, .str ⟨#[d]⟩]) ∧ x.cps[i]? = some c ∧ y.cps[i]? = some d,
   fun i _ => i ≤ x.cps.size ∧ i ≤ y.cps.size ∧ (i = x.cps.size ∨ i = y.cps.size)⟩
theorem turn_zipS {P : Program} {w : World} {K : PySem.W.Frag} {elts : List Expr} {kk : Nat} {tpos : Pos} {x y : Str} {t u : Tok} {z TI TO i1 i2 : Addr} (D : ZipSep2 z TI TO i1 i2 [i1] [i2]) :
    Turn P w K (.Tuple elts kk tpos) (ItzS x y) [z, TI, TO, i1, i2] z (fun i h => IsZip h z TI TO .none ∧ IsTupOf2 h TI (.ref i1) (.ref i2) ∧ (∃ a b, IsTupOf2 h TO a b) ∧ h.IsStrIter i1 (strIterType x) x t i ∧ h.IsStrIter i2 (strIterType y) y u i) where
  mem := List.mem_cons_self ..
  obj := by
    rintro i h ⟨hz, hTI, ⟨a, b, hTO⟩, ⟨o1, e1, _, d1⟩, ⟨o2, e2, _, d2⟩⟩ c hc
    have five : c = z ∨ c = TI ∨ c = TO ∨ c = i1 ∨ c = i2 := by simpa using hc
    rcases five with rfl | rfl | rfl | rfl | rfl
    · exact ⟨_, hz, fun v q => by cases q⟩
    · exact ⟨_, hTI, fun v q => by cases q⟩
    · exact ⟨_, hTO, fun v q => by cases q⟩
    · exact ⟨o1, e1, fun v q => by rw [d1] at q; cases q⟩
    · exact ⟨o2, e2, fun v q => by rw [d2] at q; cases q⟩
  keep := by
    rintro i h h' ⟨hz, hTI, ⟨a, b, hTO⟩, s1, s2⟩ k
    exact ⟨k z (by simp) _ hz, k TI (by simp) _ hTI, ⟨a, b, k TO (by simp) _ hTO⟩, str_iter_at s1 fun o q => k i1 (by simp) o q, str_iter_at s2 fun o q => k i2 (by simp) o q⟩
  item := by
    intro X hP hw hK hc i pins s σ H E I free st go
    subst hP hw hK
    obtain ⟨hz, hTI, ⟨a, b, hTO⟩, s1, s2⟩ := st
    have D1 := Draws.text (prog := X.prog) (w := X.w) (A := X.A.in1) (show X.A.in1.handled = none from I.ok.hd hc) i1 x t
    have D2 := Draws.text (prog := X.prog) (w := X.w) (A := X.A.in1) (show X.A.in1.handled = none from I.ok.hd hc) i2 y u
    have zl : z < s.heap.objs.size := Heap.lt_size hz
    refine wpAny_pyNext_zipD2_item D D1 D2 hz hTI hTO s1 s2 go.1 go.2 fun v1 v2 h' tk p1 p2 z' TO' n1 n2 hT hsz kept => ?_
    obtain ⟨c, t1, hx, rfl⟩ := p1
    obtain ⟨d, t2, hy, rfl⟩ := p2
    refine ⟨_, rfl, wpAny_letOwnedTupleGo_zip (s := { s with heap := h', toks := tk }) z' fun h'' z'' sb => ?_⟩
    have new : h''.get? s.heap.objs.size = some { cls := .type "tuple", data := .seq #[Value.str ⟨#[c]⟩ t1, Value.str ⟨#[d]⟩ t2] } := (sb.2 _ (Nat.ne_of_gt zl)).trans hT
    have ob : ObjOk X.prog X.w (upd H s.heap.objs.size (.tup [.str ⟨#[c]⟩, .str ⟨#[d]⟩])) h'' s.heap.objs.size (.tup [.str ⟨#[c]⟩, .str ⟨#[d]⟩]) :=
      ⟨by show 2 ≤ sizeLine; decide, [Value.str ⟨#[c]⟩ t1, Value.str ⟨#[d]⟩ t2], .cons ⟨_, rfl⟩ (.cons ⟨_, rfl⟩ .nil), ⟨_, new, rfl, _, rfl⟩⟩
    have J : Inv X pins σ (upd H s.heap.objs.size (.tup [.str ⟨#[c]⟩, .str ⟨#[d]⟩])) { s with heap := h'', toks := tk } :=
      I.turnedNew (t' := tk) (ch := [z, TI, TO, i1, i2]) (fun c o hb q => (sb.2 c (fun e => hb (by simp [e]))).trans (kept c o (fun e => hb (by simp [e])) (fun e => hb (by simp [e])) (fun e => hb (by simp [e])) (fun e => hb (by simp [e])) q)) free (Nat.le_refl _) ob
    refine ⟨.ref s.heap.objs.size, _, J, rfl, ⟨_, c, d, rfl, I.hok.fresh (Nat.le_refl _), rfl, hx, hy⟩, ⟨z'', ?_, ⟨_, _, (sb.2 _ D.TOz).trans TO'⟩, ?_, ?_⟩, fun b hb => ?_⟩
    · exact (sb.2 _ D.TIz).trans (kept _ _ D.TIz D.TITO D.TIi1 D.TIi2 hTI)
    · exact str_iter_at n1 fun o q => (sb.2 _ (Ne.symm D.zi1)).trans q
    · exact str_iter_at n2 fun o q => (sb.2 _ (Ne.symm D.zi2)).trans q
    · have lt : b < s.heap.objs.size := by
        have five : b = z ∨ b = TI ∨ b = TO ∨ b = i1 ∨ b = i2 := by simpa using hb
        rcases five with rfl | rfl | rfl | rfl | rfl
        · exact zl
        · exact Heap.lt_size hTI
        · exact Heap.lt_size hTO
        · obtain ⟨_, e1, _⟩ := s1
          exact Heap.lt_size e1
        · obtain ⟨_, e2, _⟩ := s2
          exact Heap.lt_size e2
      rw [upd_ne (Nat.ne_of_lt lt)]
      exact (free b hb).1
  done := by
    intro X hP hw hK hc i pins s σ H E I free st stop
    subst hP hw hK
    obtain ⟨hz, hTI, ⟨a, b, hTO⟩, s1, s2⟩ := st
    have D1 := Draws.text (prog := X.prog) (w := X.w) (A := X.A.in1) (show X.A.in1.handled = none from I.ok.hd hc) i1 x t
    have D2 := Draws.text (prog := X.prog) (w := X.w) (A := X.A.in1) (show X.A.in1.handled = none from I.ok.hd hc) i2 y u
    refine wpAny_pyNext_zipD2_end D D1 D2 hz hTI hTO s1 s2 stop.1 stop.2.1 stop.2.2 fun h' tk kept => ⟨rfl, ?_⟩
    exact I.turnedL (t' := tk) (ch := [z, TI, TO, i1, i2]) (fun c o hb q => kept c o (fun e => hb (by simp [e])) (fun e => hb (by simp [e])) (fun e => hb (by simp [e])) (fun e => hb (by simp [e])) q) free
  self := fun A i s Q E st h => wpAny_pyIter_zip st.1 h
def iZipS (ta : TA) : TI := fun σ H R => ta σ H fun vs H1 => ∃ x y, vs = [.str x, .str y] ∧ R (ItzS x y) H1
theorem pi_zipS {X : Cx} {e e2 : Expr} {ta : TA} {p pos tpos : Pos} {elts : List Expr} {kk : Nat} (hg : Gl X "zip") (hm : X.mg "zip" = none) (ha : PA X [e, e2] ta)
    (hs : starEach [e, e2] X.env = (false, eval e X.env) :: starEach [e2] X.env := by rfl) (hpl : (backTo pos (starEach [e2] X.env)).any (·.1) = false := by rfl) :
    PI X (.Tuple elts kk tpos) (.Call (.Name "zip" p) [e, e2] [] pos) (iZipS ta) := by
  constructor
  intro pins s σ H R I h
  refine Call_ (ld_blt I hg hm PyProof.Rows.boot_zip (PyProof.Rows.callWith_type1 (thn (ha.run pos pins s σ H _ I h) ?_) hs hpl))
  rintro us s1 ⟨vs, H1, I1, r1, x, y, rfl, q⟩
  obtain ⟨u1, u2, rfl, ⟨t, rfl⟩, ⟨u, rfl⟩⟩ := vals2 r1
  refine zip_begins2 (begins_text x t) (begins_text y u) trivial trivial fun h' hz hTI hTO h1 h2 hsz kept => wpAny_pyIter_zip hz ?_
  have I2 : Inv X pins σ H1 { s1 with heap := h' } := I1.kept (t' := s1.toks) kept
  let N := s1.heap.objs.size
  refine ⟨N + 4, [N + 4, N + 2, N + 3, N, N + 1], _, _, H1, rfl, I2, turn_zipS (x := x) (y := y) (t := t) (u := u) (zip_sep2 (N := N) (fp1 := []) (fp2 := []) (fun b hb => by cases hb) (fun b hb => by cases hb)), ⟨hz, hTI, ⟨_, _, hTO⟩, ⟨_, h1, rfl, rfl⟩, ⟨_, h2, rfl, rfl⟩⟩, fun c hc => ?_, q⟩
  have five : c = N + 4 ∨ c = N + 2 ∨ c = N + 3 ∨ c = N ∨ c = N + 1 := by simpa using hc
  have le : s1.heap.objs.size ≤ c := by
    rcases five with e | e | e | e | e
    · rw [e]; exact Nat.le_add_right _ _
    · rw [e]; exact Nat.le_add_right _ _
    · rw [e]; exact Nat.le_add_right _ _
    · rw [e]; exact Nat.le_refl _
    · rw [e]; exact Nat.le_add_right _ _
  exact I1.fpOk le (I1.hok.fresh le)
/-- two texts that are as long -/
theorem walk_zipS {x y : Str} (h : x.cps.size = y.cps.size) : Walk (ItzS x y) x.cps.size (fun _ => True)
    (fun i H v H' => ∃ T c d, v = .ref T ∧ H T = none ∧ H' = upd H T (.tup [.str ⟨#[c]⟩, .str ⟨#[d]⟩]) ∧ x.cps[i]? = some c ∧ y.cps[i]? = some d) :=
  ⟨fun i _ hi _ => ⟨hi, h ▸ hi⟩, fun _ _ => ⟨Nat.le_refl _, Nat.le_of_eq h, .inl rfl⟩, fun _ _ _ _ _ _ z => z⟩
end Bp
set_option Elab.async false
set_option linter.all false
set_option maxRecDepth 100000
/-! zip of lists and tuples, of either kind each. -/
namespace Bp
open PySem PySem.Spec PyProof.Rows L2
/-- a list, or a tuple -/
def SqA (K : PySem.W.Frag) (lst : Bool) (H : Hp) (a : Addr) (xs : List V) : Prop := if lst = true then SqL K H a xs else SqT K H a xs
def IterA (lst : Bool) (h : Heap) (it a : Addr) (i : Nat) : Prop := if lst = true then h.IsListIter it a i else h.IsTupleIter it a i
def SeqA (lst : Bool) (h : Heap) (a : Addr) (its : Array Value) : Prop := if lst = true then h.IsList a its else h.IsTuple a its
def objA (lst : Bool) (a : Addr) : Obj := if lst = true then { cls := .type "list_iterator", data := .fields #[.ref a, .int 0 0] } else { cls := .type "tuple_iterator", data := .fields #[.ref a, .int 0 0] }
theorem drawsA {prog : Program} {w : World} {A : Around} (lst : Bool) (hd : A.handled = none) (it l : Addr) (ne : l ≠ it) (items : Array Value) :
    Draws prog w A it [it, l] items.size (fun i v => items[i]? = some v) fun i h => IterA lst h it l i ∧ SeqA lst h l items := by
  cases lst with
  | true => exact Draws.list hd it l ne items
  | false => exact Draws.tuple hd it l ne items
theorem beginsA (lst : Bool) (l : Addr) (items : Array Value) : Begins (.ref l) (objA lst l) fun h => SeqA lst h l items := by
  cases lst with
  | true => exact begins_list l items
  | false => exact begins_tuple l items
theorem iterA_new {lst : Bool} {h : Heap} {it a : Addr} (e : h.get? it = some (objA lst a)) : IterA lst h it a 0 := by
  cases lst with
  | true => exact ⟨_, e, rfl, rfl⟩
  | false => exact ⟨_, e, rfl, rfl⟩
theorem iterA_obj {lst : Bool} {h : Heap} {it a : Addr} {i : Nat} (s : IterA lst h it a i) : ∃ o, h.get? it = some o ∧ ∀ v, o.data ≠ Data.cell v := by
  cases lst with
  | true =>
    obtain ⟨o, e, _, d⟩ := s
    exact ⟨o, e, fun v q => by rw [d] at q; cases q⟩
  | false =>
    obtain ⟨o, e, _, d⟩ := s
    exact ⟨o, e, fun v q => by rw [d] at q; cases q⟩
theorem iterA_at {lst : Bool} {h h' : Heap} {it a : Addr} {i : Nat} (s : IterA lst h it a i) (k : ∀ o, h.get? it = some o → h'.get? it = some o) : IterA lst h' it a i := by
  cases lst with
  | true => exact Heap.IsListIter.at s k
  | false => exact Heap.IsTupleIter.at s k
section
variable {X : Cx} {pins : List (Addr × Obj)} {σ : L2.St} {H : Hp} {s : Shared} {a : Addr} {xs ys : List V}
theorem seqA_of {lst : Bool} (I : Inv X pins σ H s) (q : SqA X.K lst H a xs) : ∃ its : List Value, Vals xs its ∧ SeqA lst s.heap a its.toArray ∧ a < s.heap.objs.size := by
  cases lst with
  | true =>
    obtain ⟨its, rv, p, _⟩ := I.list q
    exact ⟨its, rv, p.isList, p.lt⟩
  | false =>
    obtain ⟨its, rv, p, _⟩ := I.tuple q
    obtain ⟨o, ho, _⟩ := id p
    exact ⟨its, rv, p, Heap.lt_size ho⟩
theorem seqA_inj {lst : Bool} (I : Inv X pins σ H s) (q : SqA X.K lst H a xs) (r : SqA X.K lst H a ys) : xs = ys := by
  cases lst with
  | true => exact I.list_inj q r
  | false => exact I.tuple_inj q r
end
/-- the two as they stand at each turn, the items in new pairs -/
def ItzM (K : PySem.W.Frag) (l1 l2 : Bool) (a b : Addr) : It :=
  ⟨fun i H => ∃ (xs ys : List V) (x y : V), SqA K l1 H a xs ∧ SqA K l2 H b ys ∧ xs[i]? = some x ∧ ys[i]? = some y,
    fun i H v H' => ∃ T x y, v = .ref T ∧ H T = none ∧ H' = upd H T (.tup [x, y]) ∧ (∀ xs, SqA K l1 H a xs → xs[i]? = some x) ∧ ∀ ys, SqA K l2 H b ys → ys[i]? = some y,
    fun i H => ∃ xs ys : List V, SqA K l1 H a xs ∧ SqA K l2 H b ys ∧ i ≤ xs.length ∧ i ≤ ys.length ∧ (i = xs.length ∨ i = ys.length)⟩
theorem turn_zipM {P : Program} {w : World} {K : PySem.W.Frag} {elts : List Expr} {kk : Nat} {tpos : Pos} {l1 l2 : Bool} {a b z TI TO i1 i2 : Addr} (D : ZipSep2 z TI TO i1 i2 [i1, a] [i2, b]) (n1 : a ≠ i1) (n2 : b ≠ i2) :
    Turn P w K (.Tuple elts kk tpos) (ItzM K l1 l2 a b) [z, TI, TO, i1, i2] z (fun i h => IsZip h z TI TO .none ∧ IsTupOf2 h TI (.ref i1) (.ref i2) ∧ (∃ x y, IsTupOf2 h TO x y) ∧ IterA l1 h i1 a i ∧ IterA l2 h i2 b i) where
  mem := List.mem_cons_self ..
  obj := by
    rintro i h ⟨hz, hTI, ⟨x, y, hTO⟩, s1, s2⟩ c hc
    have five : c = z ∨ c = TI ∨ c = TO ∨ c = i1 ∨ c = i2 := by simpa using hc
    rcases five with rfl | rfl | rfl | rfl | rfl
    · exact ⟨_, hz, fun v q => by cases q⟩
    · exact ⟨_, hTI, fun v q => by cases q⟩
    · exact ⟨_, hTO, fun v q => by cases q⟩
    · exact iterA_obj s1
    · exact iterA_obj s2
  keep := by
    rintro i h h' ⟨hz, hTI, ⟨x, y, hTO⟩, s1, s2⟩ k
    exact ⟨k z (by simp) _ hz, k TI (by simp) _ hTI, ⟨x, y, k TO (by simp) _ hTO⟩, iterA_at s1 fun o q => k i1 (by simp) o q, iterA_at s2 fun o q => k i2 (by simp) o q⟩
  item := by
    intro X hP hw hK hc i pins s σ H E I free st go
    subst hP hw hK
    obtain ⟨hz, hTI, ⟨x0, y0, hTO⟩, s1, s2⟩ := st
    obtain ⟨xs, ys, x, y, hqx, hqy, hx, hy⟩ := go
    obtain ⟨its, rv, p1, _⟩ := seqA_of I hqx
    obtain ⟨its2, rv2, p2, _⟩ := seqA_of I hqy
    obtain ⟨u, hu, ru⟩ := rv.get hx
    obtain ⟨u2, hu2, ru2⟩ := rv2.get hy
    have D1 := drawsA (prog := X.prog) (w := X.w) (A := X.A.in1) l1 (show X.A.in1.handled = none from I.ok.hd hc) i1 a n1 its.toArray
    have D2 := drawsA (prog := X.prog) (w := X.w) (A := X.A.in1) l2 (show X.A.in1.handled = none from I.ok.hd hc) i2 b n2 its2.toArray
    have zl : z < s.heap.objs.size := Heap.lt_size hz
    refine wpAny_pyNext_zipD2_item D D1 D2 hz hTI hTO ⟨s1, p1⟩ ⟨s2, p2⟩ (by simpa using (List.getElem?_eq_some_iff.mp hu).1) (by simpa using (List.getElem?_eq_some_iff.mp hu2).1) fun v1 v2 h' tk q1 q2 z' TO' m1 m2 hT hsz kept => ?_
    obtain rfl : u = v1 := Option.some.inj ((by simpa using hu : its.toArray[i]? = some u).symm.trans q1)
    obtain rfl : u2 = v2 := Option.some.inj ((by simpa using hu2 : its2.toArray[i]? = some u2).symm.trans q2)
    refine ⟨_, rfl, wpAny_letOwnedTupleGo_zip (s := { s with heap := h', toks := tk }) z' fun h'' z'' sb => ?_⟩
    have new : h''.get? s.heap.objs.size = some { cls := .type "tuple", data := .seq #[u, u2] } := (sb.2 _ (Nat.ne_of_gt zl)).trans hT
    have ob : ObjOk X.prog X.w (upd H s.heap.objs.size (.tup [x, y])) h'' s.heap.objs.size (.tup [x, y]) :=
      ⟨by show 2 ≤ sizeLine; decide, [u, u2], .cons ru (.cons ru2 .nil), ⟨_, new, rfl, _, rfl⟩⟩
    have J : Inv X pins σ (upd H s.heap.objs.size (.tup [x, y])) { s with heap := h'', toks := tk } :=
      I.turnedNew (t' := tk) (ch := [z, TI, TO, i1, i2]) (fun c o hb q => (sb.2 c (fun e => hb (by simp [e]))).trans (kept c o (fun e => hb (by simp [e])) (fun e => hb (by simp [e])) (fun e => hb (by simp [e])) (fun e => hb (by simp [e])) q)) free (Nat.le_refl _) ob
    have zi1 : i1 ≠ z := fun e => D.zf1 (by rw [e]; exact List.mem_cons_self ..)
    have zi2 : i2 ≠ z := fun e => D.zf2 (by rw [e]; exact List.mem_cons_self ..)
    refine ⟨.ref s.heap.objs.size, _, J, rfl, ⟨_, x, y, rfl, I.hok.fresh (Nat.le_refl _), rfl, fun l hl => by rw [seqA_inj I hl hqx]; exact hx, fun l hl => by rw [seqA_inj I hl hqy]; exact hy⟩, ⟨z'', ?_, ⟨_, _, (sb.2 _ D.TOz).trans TO'⟩, ?_, ?_⟩, fun b hb => ?_⟩
    · exact (sb.2 _ D.TIz).trans (kept _ _ D.TIz D.TITO D.TIi1 D.TIi2 hTI)
    · exact iterA_at m1.1 fun o q => (sb.2 _ zi1).trans q
    · exact iterA_at m2.1 fun o q => (sb.2 _ zi2).trans q
    · have lt : b < s.heap.objs.size := by
        have five : b = z ∨ b = TI ∨ b = TO ∨ b = i1 ∨ b = i2 := by simpa using hb
        rcases five with rfl | rfl | rfl | rfl | rfl
        · exact zl
        · exact Heap.lt_size hTI
        · exact Heap.lt_size hTO
        · obtain ⟨_, e1, _⟩ := iterA_obj s1
          exact Heap.lt_size e1
        · obtain ⟨_, e2, _⟩ := iterA_obj s2
          exact Heap.lt_size e2
      rw [upd_ne (Nat.ne_of_lt lt)]
      exact (free b hb).1
  done := by
    intro X hP hw hK hc i pins s σ H E I free st stop
    subst hP hw hK
    obtain ⟨hz, hTI, ⟨x0, y0, hTO⟩, s1, s2⟩ := st
    obtain ⟨xs, ys, hqx, hqy, le1, le2, hend⟩ := stop
    obtain ⟨its, rv, p1, _⟩ := seqA_of I hqx
    obtain ⟨its2, rv2, p2, _⟩ := seqA_of I hqy
    have e1 := rv.length
    have e2 := rv2.length
    have D1 := drawsA (prog := X.prog) (w := X.w) (A := X.A.in1) l1 (show X.A.in1.handled = none from I.ok.hd hc) i1 a n1 its.toArray
    have D2 := drawsA (prog := X.prog) (w := X.w) (A := X.A.in1) l2 (show X.A.in1.handled = none from I.ok.hd hc) i2 b n2 its2.toArray
    refine wpAny_pyNext_zipD2_end D D1 D2 hz hTI hTO ⟨s1, p1⟩ ⟨s2, p2⟩ (by simp; omega) (by simp; omega) (by simp; omega) fun h' tk kept => ⟨rfl, ?_⟩
    exact I.turnedL (t' := tk) (ch := [z, TI, TO, i1, i2]) (fun c o hb q => kept c o (fun e => hb (by simp [e])) (fun e => hb (by simp [e])) (fun e => hb (by simp [e])) (fun e => hb (by simp [e])) q) free
  self := fun A i s Q E st h => wpAny_pyIter_zip st.1 h
def iZipM (K : PySem.W.Frag) (l1 l2 : Bool) (ta : TA) : TI := fun σ H R => ta σ H fun vs H1 => ∃ a b xs ys, vs = [.ref a, .ref b] ∧ SqA K l1 H1 a xs ∧ SqA K l2 H1 b ys ∧ R (ItzM K l1 l2 a b) H1
theorem pi_zipM {X : Cx} {e e2 : Expr} {ta : TA} {p pos tpos : Pos} {elts : List Expr} {kk : Nat} (l1 l2 : Bool) (hg : Gl X "zip") (hm : X.mg "zip" = none) (ha : PA X [e, e2] ta)
    (hs : starEach [e, e2] X.env = (false, eval e X.env) :: starEach [e2] X.env := by rfl) (hpl : (backTo pos (starEach [e2] X.env)).any (·.1) = false := by rfl) :
    PI X (.Tuple elts kk tpos) (.Call (.Name "zip" p) [e, e2] [] pos) (iZipM X.K l1 l2 ta) := by
  constructor
  intro pins s σ H R I h
  refine Call_ (ld_blt I hg hm PyProof.Rows.boot_zip (PyProof.Rows.callWith_type1 (thn (ha.run pos pins s σ H _ I h) ?_) hs hpl))
  rintro us s1 ⟨vs, H1, I1, r1, a, b, xs, ys, rfl, qx, qy, q⟩
  obtain ⟨u1, u2, rfl, r1, r2⟩ := vals2 r1
  cases r1
  cases r2
  obtain ⟨its, rv, p1, la⟩ := seqA_of I1 qx
  obtain ⟨its2, rv2, p2, lb⟩ := seqA_of I1 qy
  refine zip_begins2 (beginsA l1 a its.toArray) (beginsA l2 b its2.toArray) p1 p2 fun h' hz hTI hTO h1 h2 hsz kept => wpAny_pyIter_zip hz ?_
  have I2 : Inv X pins σ H1 { s1 with heap := h' } := I1.kept (t' := s1.toks) kept
  let N := s1.heap.objs.size
  refine ⟨N + 4, [N + 4, N + 2, N + 3, N, N + 1], _, _, H1, rfl, I2, turn_zipM (l1 := l1) (l2 := l2) (a := a) (b := b) (zip_sep2 (N := N) (fp1 := [a]) (fp2 := [b]) (fun c hc => by rw [List.mem_singleton.mp hc]; exact la) (fun c hc => by rw [List.mem_singleton.mp hc]; exact lb)) (Nat.ne_of_lt la) (Nat.ne_of_lt (Nat.lt_succ_of_lt lb)), ⟨hz, hTI, ⟨_, _, hTO⟩, iterA_new h1, iterA_new h2⟩, fun c hc => ?_, q⟩
  have five : c = N + 4 ∨ c = N + 2 ∨ c = N + 3 ∨ c = N ∨ c = N + 1 := by simpa using hc
  have le : s1.heap.objs.size ≤ c := by
    rcases five with e | e | e | e | e
    · rw [e]; exact Nat.le_add_right _ _
    · rw [e]; exact Nat.le_add_right _ _
    · rw [e]; exact Nat.le_add_right _ _
    · rw [e]; exact Nat.le_refl _
    · rw [e]; exact Nat.le_add_right _ _
  exact I1.fpOk le (I1.hok.fresh le)
/-- two that are as long -/
theorem walk_zipM {K : PySem.W.Frag} {l1 l2 : Bool} {a b : Addr} {xs ys : List V} (h : xs.length = ys.length) : Walk (ItzM K l1 l2 a b) xs.length (fun H => SqA K l1 H a xs ∧ SqA K l2 H b ys)
    (fun i H v H' => ∃ T x y, v = .ref T ∧ H T = none ∧ H' = upd H T (.tup [x, y]) ∧ xs[i]? = some x ∧ ys[i]? = some y) := by
  refine ⟨fun i H hi g => ?_, fun H g => ?_, fun i H v H' hi g y => ?_⟩
  · exact ⟨xs, ys, _, _, g.1, g.2, List.getElem?_eq_getElem hi, List.getElem?_eq_getElem (h ▸ hi)⟩
  · exact ⟨xs, ys, g.1, g.2, Nat.le_refl _, Nat.le_of_eq h, .inl rfl⟩
  · obtain ⟨T, x, z, e, n, eh, f1, f2⟩ := y
    exact ⟨T, x, z, e, n, eh, f1 xs g.1, f2 ys g.2⟩
end Bp
set_option Elab.async false
set_option linter.all false
set_option maxRecDepth 100000
set_option maxHeartbeats 2000000
/-! Rows. -/
namespace K23
open PySem PySem.Spec PyProof.Rows L2 Bp
/-- rows of a work -/
structure RowsOk (k : WorkL) (R : List (List Nat)) : Prop where
  len : R.length = k.bands.length
  each : ∀ (i : Nat) m b, R[i]? = some m → k.bands[i]? = some b → m.length = b.long ∧ ∀ c ∈ m, c ∈ k.signs
/-- signs in a row, cut as the bands are long -/
def cutL : List BandL → List Nat → List (List Nat)
  | [], _ => []
  | b :: bs, f => f.take b.long :: cutL bs (f.drop b.long)
def longs (bs : List BandL) : Nat := (bs.map (·.long)).sum
theorem cutL_len : ∀ (bs : List BandL) (f : List Nat), (cutL bs f).length = bs.length
  | [], _ => rfl
  | b :: bs, f => by
    show (cutL bs _).length + 1 = bs.length + 1
    rw [cutL_len bs]
theorem cutL_get : ∀ (bs : List BandL) (f : List Nat) (i : Nat) (b : BandL), bs[i]? = some b → (cutL bs f)[i]? = some ((f.drop (longs (bs.take i))).take b.long)
  | [], _, i, b, h => by simp at h
  | x :: bs, f, 0, b, h => by
    obtain rfl : x = b := by simpa using h
    rfl
  | x :: bs, f, i + 1, b, h => by
    have h2 : bs[i]? = some b := by simpa using h
    have ih := cutL_get bs (f.drop x.long) i b h2
    show (cutL bs (f.drop x.long))[i]? = _
    rw [ih, List.drop_drop]
    have e : longs ((x :: bs).take (i + 1)) = x.long + longs (bs.take i) := by
      unfold longs
      rw [List.take_succ_cons, List.map_cons, List.sum_cons]
    rw [e]
theorem longs_snoc (bs : List BandL) (b : BandL) : longs (bs ++ [b]) = longs bs + b.long := by
  unfold longs
  rw [List.map_append, List.sum_append]
  simp
theorem cut_mid (m : List Nat) (a n : Nat) (h : a + n ≤ m.length) : cutV ((ones m).map V.str) (some (a : Int)) (some ((a : Int) + (n : Int))) = (ones ((m.drop a).take n)).map V.str := by
  unfold cutV
  rw [show ((a : Int) + (n : Int)) = ((a + n : Nat) : Int) by omega, List.length_map, ones_len, HT.sIx_nat, HT.sIx_nat, Nat.min_eq_left (show a ≤ m.length by omega), Nat.min_eq_left h]
  unfold ones
  rw [List.map_map, List.map_map, ← List.map_drop, ← List.map_take, show a + n - a = n by omega]
section
variable {P : Program} {w : World} {K : PySem.W.Frag} {mg : Str → Option Value} {base : Heap} {CC CW CB CP : Addr}
/-! ### is_text_for -/
theorem sc_is_text_for : FnScope ["band", "signs", "thing", "sign"] ["band", "signs", "thing"] (defScope s_is_text_for) := ⟨rfl, rfl, rfl, by decide +kernel, rfl, by decide +kernel, by decide +kernel⟩
def sp_is_text_for (CB : Addr) : Sp := fun vs H Q _ => ∃ (p : Addr) (b : BandL) (g m : List Nat), vs = [.ref p, .str (tx g), .str (tx m)] ∧ IsBand CB H p b ∧ m.length = b.long ∧ m.length ≤ 12 ∧ (∀ c ∈ m, c ∈ g) ∧ ∀ H', Same H H' → Q (.bl true) H'
theorem ok_is_text_for {f : Addr} {fd : FuncData} {k : Nat} (B : Blt mg) (TB : BandDefs P w K mg base CB k) (F : Fun K "is_text_for" "is_text_for" s_is_text_for f fd) : FnOk P w K mg base CX0 (k + 1) f fd ["band", "signs", "thing"] (sp_is_text_for CB) := by
  obtain ⟨fl, fdl, ml, bl, Gl⟩ := TB.long
  refine F.ok sc_is_text_for (fun vs H Q E h => ?_) (fun cdv A outer s H vs Q E hr h => ?_)
  · obtain ⟨p, b, g, m, rfl, _⟩ := h
    rfl
  · obtain ⟨p, b, g, m, rfl, ib, ml_, few, ing, q⟩ := h
    refine ⟨_, pss_cons (ps_if (PW.pt (pw_or (pt_not (pt_val (pe_callB call_isi (by rfl) B.isi (by decide +kernel) (pa_cons (pv 2) (pa_cons (pe_bltn (u := .type "str") (v := .ty "str") (by rfl) B.str (by decide +kernel) (by rfl)) pa_nil)))))
        (pw_or1 (pt_cmpR op_ne (pe_callB call_len (by rfl) B.len PySem.boot_len (pa_cons (pv 2) pa_nil)) (pe_meth0 (pv 0) TB.txt.cl ml Gl hr bl .nil pass0) (nomark _))))) (pss_one (ps_ret pe_bl)) pss_nil)
      (pss_one (ps_ret (pe_callB (cr_all rfl) (by rfl) B.all (by decide +kernel) (pa_cons (pe_lc (own := [("sign", 3)]) (g := gName 3) (tt := tYes) rfl sc_is_text_for.nd (pi_str (pv 2)) (blkOk_by (own := [("sign", 3)]) (N := ["band", "signs", "thing", "sign"]) (sc := defScope s_is_text_for) (by decide +kernel))
        (fun _ _ _ _ _ => pg_name (i := 3) sc_is_text_for.nd rfl (Or.inl rfl)) (fun _ _ _ _ _ => pts_nil) (fun _ _ _ _ _ => pe_cmpR op_in_sign (pv 3) (pv 1) (by rfl))) pa_nil)))), ?_⟩
    obtain ⟨dx, e⟩ := id ib
    refine ⟨.str (tx m), rfl, .str (tx m), .ty "str", .type "str", .type "str", true, rfl, .ty _, .base (.str _), kit_ty (by decide +kernel), true, rfl, noOf rfl ?_⟩
    refine ⟨.str (tx m), rfl, .str (tx m), m.length, rfl, ⟨fit_tx (by omega), (tx_len m).symm⟩, .ref p, rfl, p, dx, _, rfl, e, no_long b, p, b, rfl, ib, rfl, _, rfl, noOf (by rw [ml_, decide_eq_true rfl]; rfl) ?_⟩
    refine ⟨.str (tx m), rfl, tx m, rfl, fun D nD => ?_⟩
    refine lc_true (H := H) (walk_str (z := tx m)) (fun _ _ => trivial) (by rw [show (tx m).cps.size = m.length from tx_len m]; omega) nD ?_ ?_ mono_name
    · rintro i x H1 H2 Qy hi sm ⟨rfl, c, hc, rfl⟩ qy
      have hc' : m[i]? = some c := by rw [← tx_list m, Array.getElem?_toList]; exact hc
      refine ⟨rfl, .str (tx [c]), rfl, .str (tx g), rfl, c, tx g, rfl, rfl, ?_⟩
      have hg : c ∈ (tx g).cps.toList := by
        rw [tx_list]
        exact ing c (List.mem_of_getElem? hc')
      exact qbl (decide_eq_true hg) (qy _ (Same.refl _))
    · intro H1 sm hD
      refine ⟨D, _, rfl, SqL.of hD, ?_⟩
      rw [all_true]
      exact q H1 sm
/-! ### need_rows -/
theorem sc_need_rows : FnScope ["work", "rows", "bands", "number", "band"] ["work", "rows"] (defScope s_need_rows) := ⟨rfl, rfl, rfl, by decide +kernel, rfl, by decide +kernel, by decide +kernel⟩
def sp_need_rows (CW CB CP : Addr) : Sp := fun vs H Q _ => ∃ (p t : Addr) (k : WorkL) (R : List (List Nat)), vs = [.ref p, .ref t] ∧ IsWork CW CB CP H p k ∧ BandsOk k.bands ∧ H t = some (.tup (txs R)) ∧ RowsOk k R ∧ ∀ H', Same H H' → Q .non H'
theorem ok_need_rows {f : Addr} {fd : FuncData} {k : Nat} (B : Blt mg) (TW : WorkDefs P w K mg base CW CB CP k) (D : Def P w K mg base CX0 k "is_text_for" s_is_text_for ["band", "signs", "thing"] (sp_is_text_for CB)) (F : Fun K "need_rows" "need_rows" s_need_rows f fd) : FnOk P w K mg base CX0 (k + 1) f fd ["work", "rows"] (sp_need_rows CW CB CP) := by
  obtain ⟨fb, fdb, mb, bb, Gb⟩ := TW.bands
  obtain ⟨fs, fds, ms, bs, Gs⟩ := TW.signs
  obtain ⟨f1, fd1, F1, b1, g1, G1⟩ := D.ex
  refine F.ok sc_need_rows (fun vs H Q E h => ?_) (fun cdv A outer s H vs Q E hr h => ?_)
  · obtain ⟨p, t, k, R, rfl, _⟩ := h
    rfl
  · obtain ⟨p, t, k, R, rfl, iw, bok, ht, ro, q⟩ := h
    refine ⟨_, pss_cons (ps_set (i := 2) sc_need_rows.nd rfl (.inl rfl) (pe_meth0 (pv 0) TW.txt.cl mb Gb hr bb .nil pass0))
      (pss_cons (ps_if (PW.pt (pw_or (pt_not (pt_val (pe_callB call_isi (by rfl) B.isi (by decide +kernel) (pa_cons (pv 1) (pa_cons (pe_bltn (u := .type "tuple") (v := .ty "tuple") (by rfl) B.tuple (by decide +kernel) (by rfl)) pa_nil)))))
        (pw_or1 (pt_cmpR op_ne (pe_callB call_len (by rfl) B.len PySem.boot_len (pa_cons (pv 1) pa_nil)) (pe_callB call_len (by rfl) B.len PySem.boot_len (pa_cons (pv 2) pa_nil)) (nomark _))))) (pss_one ps_never) pss_nil)
      (pss_one (ps_for PassesOwn.never rfl (pi_enum (by rfl) B.enu (pa_cons (pv 2) pa_nil)) (pg_tup rfl (pgs_cons (pg_name (i := 3) sc_need_rows.nd rfl (Or.inl rfl)) (pgs_cons (pg_name (i := 4) sc_need_rows.nd rfl (Or.inl rfl)) pgs_nil)))
        (pss_one (ps_if (pt_not (pt_val (pe_call G1 hr rfl g1 F1.kp b1 .nil pass0 (pa_cons (pv 4) (pa_cons (pe_meth0 (pv 0) TW.txt.cl ms Gs hr bs .nil pass0) (pa_cons (pe_ix ix_tup (pv 1) (pv 3) (fun _ _ => rfl)) pa_nil)))))) (pss_one ps_never) pss_nil))))), ?_⟩
    obtain ⟨dw, tb, tp, lp, dn, ew, zw⟩ := id iw
    refine ⟨.ref p, rfl, p, dw, _, rfl, ew, wno _ _ _ _ _ (by decide +kernel), p, k, rfl, iw, fun l ps H1 s1 hl ar => ?_⟩
    have ht1 := s1 _ _ ht
    refine ⟨.ref t, rfl, .ref t, .ty "tuple", .type "tuple", .type "tuple", true, rfl, .ty _, .base (.tup ht1), kit_ty (by decide +kernel), true, rfl, noOf rfl ?_⟩
    have ln : (ps.map V.ref).length = k.bands.length := by rw [List.length_map, ar.1]
    refine ⟨.ref t, rfl, .ref t, k.bands.length, rfl, .inr ⟨_, SqT.of ht1, by rw [txs_len, ro.len]⟩, .ref l, rfl, .ref l, k.bands.length, rfl, .inl ⟨_, SqL.of hl, ln.symm⟩, rfl, _, rfl, noOf (by rw [decide_eq_true rfl]; rfl) ?_⟩
    refine ⟨.ref l, rfl, l, _, rfl, SqL.of hl, ?_⟩
    refine for_it (walk_enum (K := K) (a := l) (xs := ps.map V.ref)) (fun i σ H2 => ∃ v3 v4, σ = [some (.ref p), some (.ref t), some (.ref l), v3, v4] ∧ Same H1 H2) ⟨none, none, rfl, Same.refl _⟩ (fun i σ H2 _ z => by obtain ⟨_, _, _, sm⟩ := z; exact SqL.of (sm _ _ hl)) ?_ ?_
    · rintro i x σ H2 H3 hi ⟨v3, v4, rfl, sm⟩ ⟨T, x1, x2, rfl, nT, rfl, e1, e2⟩
      obtain rfl : V.int (i : Nat) = x1 := Option.some.inj e1
      obtain ⟨pb, b, rfl, ep, eb, ib⟩ := (ar.kn (Kn.of sm)).at_ e2
      have sT := sm.trans (same_new (o := .tup [.int (i : Nat), .ref pb]) nT)
      refine ⟨T, _, rfl, SqT.of upd_same, rfl, _, _, rfl, _, _, rfl, rfl, ?_⟩
      obtain ⟨m, em⟩ : ∃ m, R[i]? = some m := ⟨R[i]'(by rw [ro.len, ← ar.1, ← List.length_map V.ref]; exact hi), List.getElem?_eq_getElem _⟩
      obtain ⟨lm, im⟩ := ro.each i m b em eb
      have b12 := (bok.each b (List.mem_of_getElem? eb)).hi
      refine ⟨.ref pb, rfl, .ref p, rfl, p, dw, _, rfl, sT _ _ (s1 _ _ ew), wno _ _ _ _ _ (by decide +kernel), p, k, rfl, iw.same (s1.trans sT), .ref t, rfl, .int (i : Nat), rfl, t, _, _, _, rfl, rfl, SqT.of (sT _ _ ht1), atI_nat (txs_get em), pb, b, k.signs, m, rfl, ib.kn (Kn.new nT), lm, by omega, im, fun H4 s4 => ⟨true, rfl, noOf rfl ?_⟩⟩
      exact ⟨_, _, rfl, sT.trans s4⟩
    · rintro σ H2 ⟨v3, v4, rfl, sm⟩
      exact q H2 (s1.trans sm)
/-! ### rows_of -/
abbrev NsRO : List Str := ["work", "signs", "texts", "start", "band"]
theorem sc_rows_of : FnScope NsRO ["work", "signs"] (defScope s_rows_of) := ⟨rfl, rfl, rfl, by decide +kernel, rfl, by decide +kernel, by decide +kernel⟩
def sp_rows_of (CW CB CP : Addr) : Sp := fun vs H Q _ => ∃ (p l : Addr) (k : WorkL) (fl : List Nat), vs = [.ref p, .ref l] ∧ IsWork CW CB CP H p k ∧ BandsOk k.bands ∧ H l = some (.lst ((ones fl).map V.str)) ∧ fl.length = longs k.bands ∧ ∀ t H', Same H H' → H' t = some (.tup (txs (cutL k.bands fl))) → Q (.ref t) H'
theorem ok_rows_of {f : Addr} {fd : FuncData} {k : Nat} (B : Blt mg) (TW : WorkDefs P w K mg base CW CB CP k) (TB : BandDefs P w K mg base CB k) (F : Fun K "rows_of" "rows_of" s_rows_of f fd) : FnOk P w K mg base CX0 (k + 1) f fd ["work", "signs"] (sp_rows_of CW CB CP) := by
  obtain ⟨fb, fdb, mb, bb, Gb⟩ := TW.bands
  obtain ⟨fl_, fdl, ml, bl, Gl⟩ := TB.long
  refine F.ok sc_rows_of (fun vs H Q E h => ?_) (fun cdv A outer s H vs Q E hr h => ?_)
  · obtain ⟨p, l, k, fl, rfl, _⟩ := h
    rfl
  · obtain ⟨p, l, k, fl, rfl, iw, bok, hl, fn, q⟩ := h
    refine ⟨_, pss_cons (ps_set (i := 2) sc_rows_of.nd rfl (.inl rfl) (pe_lst pa_nil))
      (pss_cons (ps_set (i := 3) sc_rows_of.nd rfl (.inl rfl) pe_int)
      (pss_cons (ps_for PassesOwn.never rfl (pi_list (pe_meth0 (pv 0) TW.txt.cl mb Gb hr bb .nil pass0)) (pg_name (i := 4) sc_rows_of.nd rfl (Or.inl rfl))
        (pss_cons (ps_expr (pe_bm PySem.F.plainAttrs_list PySem.F.slot_list_append PySem.F.type_list_append mt_append (pv 2) (pa_cons (pe_join pe_str (pe_slice sl_list (pv 1) (po_some (pv 3)) (po_some (pe_op op_add (pv 3) (pe_meth0 (pv 4) TB.txt.cl ml Gl hr bl .nil pass0))))) pa_nil)))
        (pss_one (ps_aug (i := 3) sc_rows_of.nd rfl (.inl rfl) (pe_meth0 (pv 4) TB.txt.cl ml Gl hr bl .nil pass0) ip_add))))
      (pss_one (ps_ret (pe_callTy call_tuple_of (by rfl) B.tuple (by decide +kernel) (pa_cons (pv 2) pa_nil)))))), ?_⟩
    have b6 := bok.hi
    have all := bok.all
    refine ⟨(by show 0 ≤ sizeLine; decide), fun lt nlt => ?_⟩
    have s0 : Same H (upd H lt (.lst [])) := same_new nlt
    obtain ⟨dw, tb, tp, lp, dn, ew, zw⟩ := id iw
    refine ⟨.ref p, rfl, p, dw, _, rfl, s0 _ _ ew, wno _ _ _ _ _ (by decide +kernel), p, k, rfl, iw.same s0, fun lb ps H1 s1 hlb ar => ?_⟩
    have s01 := s0.trans s1
    have hlt1 : H1 lt = some (.lst []) := s1 _ _ upd_same
    have ltl : lt ≠ l := fun z => by
      rw [z, hl] at nlt
      cases nlt
    have ln : (ps.map V.ref).length = k.bands.length := by rw [List.length_map, ar.1]
    refine ⟨lb, rfl, ⟨_, SqL.of hlb⟩, ?_⟩
    refine for_it (walk_list (K := K) (a := lb) (xs := ps.map V.ref)) (fun i σ H2 => ∃ v4, σ = [some (.ref p), some (.ref l), some (.ref lt), some (.int (longs (k.bands.take i) : Nat)), v4] ∧ Same H H2 ∧ H2 lb = some (.lst (ps.map V.ref)) ∧ AreBands CB H2 ps k.bands ∧ H2 lt = some (.lst (txs ((cutL k.bands fl).take i)))) ⟨none, rfl, s01, hlb, ar, hlt1⟩
      (fun i σ H2 _ z => by obtain ⟨_, _, _, hb, _⟩ := z; exact SqL.of hb) ?_ ?_
    · rintro i x σ H2 H3 hi ⟨v4, rfl, sm, hlb2, ar2, hlt2⟩ ⟨rfl, hx⟩
      obtain ⟨pb, b, rfl, ep, eb, ib⟩ := ar2.at_ hx
      obtain ⟨dx, e⟩ := id ib
      have hl2 := sm _ _ hl
      have sn : longs (k.bands.take (i + 1)) = longs (k.bands.take i) + b.long := by
        rw [List.take_add_one, eb]
        exact longs_snoc _ _
      have le : longs (k.bands.take i) + b.long ≤ fl.length := by
        rw [fn, ← sn]
        exact sum_take_le k.bands (i + 1)
      have lb_lt : lb ≠ lt := fun z => by
        rw [z, hlt2] at hlb2
        have z2 := HO.lst.inj (Option.some.inj hlb2)
        cases hc : (cutL k.bands fl).take i with
        | nil =>
          rw [hc] at z2
          have : (ps.map V.ref).length = 0 := by rw [← z2]; rfl
          omega
        | cons m ms =>
          rw [hc] at z2
          cases ps with
          | nil => cases z2
          | cons y ys => cases (List.cons.inj z2).1
      generalize hst : longs (k.bands.take i) = st at *
      refine ⟨.ref lt, rfl, .inl ⟨rfl, _, SqL.of hlt2⟩, ⟨_, rfl⟩, .ref l, rfl, .int (st : Nat), rfl, _, rfl, .int (st : Nat), rfl, .ref pb, rfl, pb, dx, _, rfl, e, no_long b, pb, b, rfl, ib, _, _, rfl, rfl, _, rfl, l, _, rfl, SqL.of hl2, fun c nc => ?_⟩
      rw [cut_mid fl st b.long le]
      have gt : (cutL k.bands fl)[i]? = some ((fl.drop st).take b.long) := by
        rw [cutL_get k.bands fl i b eb, hst]
      generalize hM : (fl.drop st).take b.long = M at gt
      have Ml : M.length ≤ 40 := by
        rw [← hM, List.length_take, List.length_drop]
        have : longs k.bands ≤ 40 := all
        omega
      have ltc : lt ≠ c := ne_of_none hlt2 nc
      have lbc : lb ≠ c := ne_of_none hlb2 nc
      refine ⟨tx [], c, ones M, tx_nil ▸ rfl, rfl, .inl (SqL.of upd_same), ?_, ?_⟩
      · rw [ones_sum, ones_len, tx_len]
        simp
        omega
      rw [ones_join]
      have hlt3 : upd H3 c (.lst ((ones M).map V.str)) lt = some (.lst (txs ((cutL k.bands fl).take i))) := by
        rw [upd_ne ltc]
        exact hlt2
      refine ⟨lt, _, _, rfl, rfl, hlt3, ?_, ?_⟩
      · rw [txs_len, List.length_take, cutL_len]
        exact small1000 (by omega)
      have kn : Kn H3 (upd (upd H3 c (.lst ((ones M).map V.str))) lt (.lst (txs ((cutL k.bands fl).take i) ++ [.str (tx M)]))) := (Kn.new nc).trans (Kn.put hlt3)
      have ib3 := ib.kn kn
      obtain ⟨dx3, e3⟩ := id ib3
      refine ⟨.int (st : Nat), rfl, .ref pb, rfl, pb, dx3, _, rfl, e3, no_long b, pb, b, rfl, ib3, _, _, rfl, rfl, ?_⟩
      refine ⟨_, by rw [sn]; rfl, ?_, ?_, ar2.kn kn, ?_⟩
      · intro a o ea
        rw [upd_ne (ne_of_none ea nlt), upd_ne (ne_of_none (sm _ _ ea) nc)]
        exact sm _ _ ea
      · rw [upd_ne lb_lt, upd_ne lbc]
        exact hlb2
      · rw [upd_same, List.take_add_one, gt]
        show _ = some (HO.lst (txs (_ ++ [M])))
        rw [txs_snoc]
    · rintro σ H2 ⟨v4, rfl, sm, hlb2, ar2, hlt2⟩
      rw [ln, ← cutL_len k.bands fl, List.take_length] at hlt2
      exact ⟨.ref lt, rfl, lt, _, rfl, .inl ⟨SqL.of hlt2, fun T nT => q T _ (sm.trans (same_new nT)) upd_same⟩⟩
end
end K23
set_option Elab.async false
set_option linter.all false
set_option maxRecDepth 100000
/-! Walks over ranges of any whole numbers. -/
namespace Bp
open PySem PySem.Spec PyProof.Rows L2
theorem turn_long {P : Program} {w : World} {K : PySem.W.Frag} {tg : Expr} (it : Addr) (lo : Int) (n : Nat) : Turn P w K tg (Itr lo n) [it] it (fun i h => IsLongIter h it (lo + (i : Nat) * 1) ((n : Int) - (i : Nat)) 1) where
  mem := by simp
  obj := fun i h st b hb => by
    have e : b = it := by simpa using hb
    subst e
    exact ⟨_, st, fun v z => by
      have z' : Data.fields _ = Data.cell v := z
      cases z'⟩
  keep := fun i h h' st k => k it (by simp) _ st
  item := by
    intro X hP hw hK hc i pins s σ H E I hf st hg
    subst hP hw hK
    obtain ⟨f0, f1, f2, f3, f4, f5⟩ := hf it (by simp)
    have W := Walks.longrange (prog := X.prog) (w := X.w) (I.ok.hd hc) it lo 1 n
    refine W.item i s _ _ hg st fun v h' tk hv st' kk => ?_
    obtain ⟨t, rfl⟩ := hv
    have I1 : Inv X pins σ H { s with heap := h', toks := tk } := I.turned (fun b o hb e => kk b o (by simpa using hb) e) f0 f1 f3 f4 f5
    refine ⟨_, rfl, go_of (s := { s with heap := h', toks := tk }) (n := "longrange_iterator") st' rfl rfl (by decide) ⟨.int (lo + i), H, I1, ⟨t, ?_⟩, ⟨rfl, rfl⟩, st', fun b hb => (hf b hb).1⟩⟩
    rw [Int.mul_one]
  done := by
    intro X hP hw hK hc i pins s σ H E I hf st hg
    subst hP hw hK
    obtain ⟨f0, f1, f2, f3, f4, f5⟩ := hf it (by simp)
    exact wpAny_pyNext_long_end (I.ok.hd hc) st (by have : n ≤ i := hg; omega) fun h' eb => ⟨rfl, I.turned (t' := s.toks) (fun b o hb e => eb b o hb e) f0 f1 f3 f4 f5⟩
  self := fun _ _ _ _ _ st h => wpAny_pyIter_longiter st h
section
variable {X : Cx} {tg : Expr}
theorem range_itW {pins : List (Addr × Obj)} {σ : L2.St} {H : Hp} {s : Shared} {R : It → Hp → Prop} {E : Value → Shared → Prop} {lo hi : Int} {t u v : Tok} {tk : Nat} (I : Inv X pins σ H s)
    (q : R (Itr lo (hi - lo).toNat) H) : wpAny (model X.prog X.w) X.A (pyIter (.ref s.heap.objs.size)) (PIE X pins σ tg R) E { s with heap := s.heap.push { cls := .type "range", data := .fields #[.int lo t, .int hi u, .int 1 v] }, toks := tk } := by
  have I1 : Inv X pins σ H { s with heap := s.heap.push { cls := .type "range", data := .fields #[.int lo t, .int hi u, .int 1 v] }, toks := tk } := I.kept fun b o e => Heap.get?_push_of_some _ e
  have fp : ∀ b ∈ [(s.heap.push { cls := .type "range", data := .fields #[.int lo t, .int hi u, .int 1 v] }).objs.size], FpOk X pins H b := fun b hb => by
    have e : b = (s.heap.push { cls := .type "range", data := .fields #[.int lo t, .int hi u, .int 1 v] }).objs.size := by simpa using hb
    subst e
    exact I1.fpOk (Nat.le_refl _) (I1.hok.fresh (Nat.le_refl _))
  have e1 : lo + ((0 : Nat) : Int) * 1 = lo := by simp
  have e2 : (((hi - lo).toNat : Nat) : Int) - ((0 : Nat) : Int) = Builtin.Range.rangeSize lo hi 1 := by rw [rangeSize_one]; split <;> omega
  by_cases sm : Builtin.Range.small lo hi 1 = true
  · refine wpAny_pyIter_range (IsRange.new ..) sm ?_
    refine ⟨_, [(s.heap.push { cls := .type "range", data := .fields #[.int lo t, .int hi u, .int 1 v] }).objs.size], _, _, H, rfl,
      I1.kept (t' := tk) fun b o e => Heap.get?_push_of_some _ e, turn_range _ lo (hi - lo).toNat, ?_, fp, q⟩
    show IsRangeIter _ _ (lo + ((0 : Nat) : Int) * 1) ((((hi - lo).toNat : Nat) : Int) - ((0 : Nat) : Int)) 1
    rw [e1, e2]
    exact Heap.get?_push_size _ rfl
  · refine wpAny_pyIter_longrange (IsRange.new ..) (by simpa using sm) ?_
    refine ⟨_, [(s.heap.push { cls := .type "range", data := .fields #[.int lo t, .int hi u, .int 1 v] }).objs.size], _, _, H, rfl,
      I1.kept (t' := tk) fun b o e => Heap.get?_push_of_some _ e, turn_long _ lo (hi - lo).toNat, ?_, fp, q⟩
    show IsLongIter _ _ (lo + ((0 : Nat) : Int) * 1) ((((hi - lo).toNat : Nat) : Int) - ((0 : Nat) : Int)) 1
    rw [e1, e2]
    exact Heap.get?_push_size _ rfl
def iRng2W (ta : TA) : TI := fun σ H R => ta σ H fun vs H1 => ∃ i j : Int, vs = [.int i, .int j] ∧ R (Itr i (j - i).toNat) H1
theorem pi_range2W {a b : Expr} {ta : TA} {p pos : Pos} (hg : Gl X "range") (hm : X.mg "range" = none) (ha : PA X [a, b] ta) (hs : starEach [a, b] X.env = [(false, eval a X.env), (false, eval b X.env)] := by rfl) (hs2 : starEach [b] X.env = [(false, eval b X.env)] := by rfl) :
    PI X tg (.Call (.Name "range" p) [a, b] [] pos) (iRng2W ta) := by
  refine ⟨fun pins s σ H R I h => ?_⟩
  refine Call_ (ld_blt I hg hm boot_range (PyProof.Rows.callWith_type1 (thn (ha.run pos pins s σ H _ I h) fun us s1 ⟨vs, H1, I1, r1, q1⟩ => ?_) (by rw [hs, hs2]) (by rw [hs2]; rfl)))
  obtain ⟨i, j, e, q⟩ := q1
  subst e
  cases r1 with
  | cons r rr =>
    cases rr with
    | cons r' rr =>
      cases rr
      obtain ⟨t, rfl⟩ := r
      obtain ⟨t', rfl⟩ := r'
      exact call_range_2 (range_itW I1 q)
end
end Bp
set_option Elab.async false
set_option linter.all false
set_option maxRecDepth 100000
set_option maxHeartbeats 2000000
/-! Single beats: what they do. -/
namespace K23
open PySem PySem.Spec PyProof.Rows L2 Bp
def workingL (rs : List PressL) (ls : List LiftL) (b : Int) : List Nat := (List.range rs.length).filter fun i => worksL rs ls i b
def rotL (m : List Nat) (many : Int) : List Nat := m.drop ((-many) % (m.length : Int)).toNat ++ m.take ((-many) % (m.length : Int)).toNat
def movedL (bs : List BandL) (R : List (List Nat)) : List (List Nat) := (bs.zip R).map fun x => rotL x.2 x.1.pace
def signAt (k : WorkL) (f : List Nat) (s : PlaceL) : Nat := f.getD (k.places.idxOf s) 0
def printL (k : WorkL) (r : PressL) (f : List Nat) : Nat := (r.table.getD (k.signs.idxOf (signAt k f r.above)) []).getD (k.signs.idxOf (signAt k f r.below)) 0
def pressL (k : WorkL) (f : List Nat) (n : Nat) : List Nat := match k.presses[n]? with
  | some r => f.set (k.places.idxOf r.below) (printL k r f)
  | none => f
def layL (k : WorkL) (f : List Nat) (u : PlaceL × Nat) : List Nat := f.set (k.places.idxOf u.1) u.2
def beatL (c : CourseL) (R : List (List Nat)) (b : Int) : List (List Nat) :=
  cutL c.work.bands ((laidL c.work.places c.puts b).foldl (layL c.work) ((workingL c.work.presses c.lifts b).foldl (pressL c.work) (movedL c.work.bands R).flatten))
/-- a sign for each place -/
structure FlatOk (k : WorkL) (f : List Nat) : Prop where
  len : f.length = longs k.bands
  each : ∀ c ∈ f, c ∈ k.signs
theorem rotL_len (m : List Nat) (i : Int) : (rotL m i).length = m.length := by
  unfold rotL
  rw [List.length_append, List.length_drop, List.length_take]
  omega
theorem rotL_mem {m : List Nat} {i : Int} {c : Nat} (h : c ∈ rotL m i) : c ∈ m := by
  unfold rotL at h
  rcases List.mem_append.mp h with h | h
  · exact List.mem_of_mem_drop h
  · exact List.mem_of_mem_take h
theorem places_longs (bs : List BandL) : (placesL bs).length = longs bs := placesL_len bs
theorem FlatOk.lt {k : WorkL} {f : List Nat} (h : FlatOk k f) {s : PlaceL} (hs : s ∈ k.places) : k.places.idxOf s < f.length := by
  rw [h.len, ← places_longs]
  exact List.idxOf_lt_length_of_mem hs
theorem FlatOk.at_ {k : WorkL} {f : List Nat} (h : FlatOk k f) {s : PlaceL} (hs : s ∈ k.places) : f[k.places.idxOf s]? = some (signAt k f s) ∧ signAt k f s ∈ k.signs := by
  have e : f[k.places.idxOf s]? = some (f[k.places.idxOf s]'(h.lt hs)) := List.getElem?_eq_getElem (h.lt hs)
  have e2 : signAt k f s = f[k.places.idxOf s]'(h.lt hs) := by
    unfold signAt
    rw [List.getD_eq_getElem?_getD, e]
    rfl
  rw [e2]
  exact ⟨e, h.each _ (List.getElem_mem _)⟩
theorem FlatOk.put {k : WorkL} {f : List Nat} (h : FlatOk k f) (i : Nat) {c : Nat} (hc : c ∈ k.signs) : FlatOk k (f.set i c) := by
  refine ⟨by rw [List.length_set]; exact h.len, fun x hx => ?_⟩
  rcases List.mem_or_eq_of_mem_set hx with hx | rfl
  · exact h.each x hx
  · exact hc
/-- what a press makes of the sign below -/
theorem print_at {k : WorkL} {r : PressL} {f : List Nat} (h : FlatOk k f) (fw : FitsWork k.signs k.places r) :
    ∃ m, r.table[k.signs.idxOf (signAt k f r.above)]? = some m ∧ m[k.signs.idxOf (signAt k f r.below)]? = some (printL k r f) ∧ printL k r f ∈ k.signs ∧ m.length ≤ 4 := by
  have ta := fw.ok.tb
  have ia := List.idxOf_lt_length_of_mem (h.at_ fw.ab).2
  have ib := List.idxOf_lt_length_of_mem (h.at_ fw.be).2
  have e1 : r.table[k.signs.idxOf (signAt k f r.above)]? = some (r.table[k.signs.idxOf (signAt k f r.above)]'(by rw [ta.len]; exact ia)) := List.getElem?_eq_getElem _
  have m1 := List.mem_of_getElem? e1
  obtain ⟨l1, _⟩ := ta.each _ m1
  have le := fw.let_ _ m1
  have pd : printL k r f = ((r.table[k.signs.idxOf (signAt k f r.above)]?).getD []).getD (k.signs.idxOf (signAt k f r.below)) 0 := by
    unfold printL
    simp only [List.getD_eq_getElem?_getD]
  rw [e1] at pd
  generalize r.table[k.signs.idxOf (signAt k f r.above)]'(by rw [ta.len]; exact ia) = m at e1 l1 le pd
  have e2 : m[k.signs.idxOf (signAt k f r.below)]? = some (m[k.signs.idxOf (signAt k f r.below)]'(by rw [l1]; exact ib)) := List.getElem?_eq_getElem _
  have e3 : printL k r f = m[k.signs.idxOf (signAt k f r.below)]'(by rw [l1]; exact ib) := by
    rw [pd]
    show m.getD _ 0 = _
    rw [List.getD_eq_getElem?_getD, e2]
    rfl
  refine ⟨m, e1, by rw [e3]; exact e2, by rw [e3]; exact le _ (List.getElem_mem _), ?_⟩
  have := ta.hi
  omega
theorem FlatOk.press {k : WorkL} {f : List Nat} (ok : k.Ok) (h : FlatOk k f) (n : Nat) : FlatOk k (pressL k f n) := by
  unfold pressL
  cases e : k.presses[n]? with
  | none => exact h
  | some r =>
    obtain ⟨_, _, _, p, _⟩ := print_at h (ok.fit r (List.mem_of_getElem? e))
    exact h.put _ p
theorem FlatOk.presses {k : WorkL} (ok : k.Ok) : ∀ (ns : List Nat) {f : List Nat}, FlatOk k f → FlatOk k (ns.foldl (pressL k) f)
  | [], _, h => h
  | n :: ns, _, h => FlatOk.presses ok ns (h.press ok n)
theorem FlatOk.lays {k : WorkL} : ∀ (us : List (PlaceL × Nat)) {f : List Nat}, (∀ u ∈ us, u.2 ∈ k.signs) → FlatOk k f → FlatOk k (us.foldl (layL k) f)
  | [], _, _, h => h
  | u :: us, _, hu, h => FlatOk.lays us (fun x hx => hu x (List.mem_cons_of_mem _ hx)) (h.put _ (hu u (List.mem_cons_self ..)))
theorem moved_get {bs : List BandL} {R : List (List Nat)} {i : Nat} {b : BandL} {m : List Nat} (hb : bs[i]? = some b) (hm : R[i]? = some m) : (movedL bs R)[i]? = some (rotL m b.pace) := by
  unfold movedL
  rw [List.getElem?_map, (List.getElem?_zip_eq_some (z := (b, m))).mpr ⟨hb, hm⟩]
  rfl
theorem moved_len {bs : List BandL} {R : List (List Nat)} (h : R.length = bs.length) : (movedL bs R).length = bs.length := by
  unfold movedL
  rw [List.length_map, List.length_zip, h, Nat.min_self]
theorem moved_flat_len : ∀ (bs : List BandL) (R : List (List Nat)), R.length = bs.length → (∀ (i : Nat) m b, R[i]? = some m → bs[i]? = some b → m.length = b.long) → (movedL bs R).flatten.length = longs bs
  | [], [], _, _ => rfl
  | [], _ :: _, h, _ => by simp at h
  | _ :: _, [], h, _ => by simp at h
  | b :: bs, m :: R, h, each => by
    have ih := moved_flat_len bs R (by simpa using h) fun i m' b' e1 e2 => each (i + 1) m' b' (by simpa using e1) (by simpa using e2)
    show (rotL m b.pace ++ (movedL bs R).flatten).length = _
    rw [List.length_append, ih, rotL_len, each 0 m b rfl rfl]
    unfold longs
    rw [List.map_cons, List.sum_cons]
theorem moved_ok {k : WorkL} {R : List (List Nat)} (ro : RowsOk k R) : FlatOk k (movedL k.bands R).flatten := by
  refine ⟨moved_flat_len _ _ ro.len fun i m b e1 e2 => (ro.each i m b e1 e2).1, fun c hc => ?_⟩
  obtain ⟨x, hx, hc⟩ := List.mem_flatten.mp hc
  obtain ⟨i, hi⟩ := List.mem_iff_getElem?.mp hx
  have il : i < k.bands.length := by
    rw [← moved_len ro.len]
    exact (List.getElem?_eq_some_iff.mp hi).1
  have eb := List.getElem?_eq_getElem il
  have er := List.getElem?_eq_getElem (l := R) (i := i) (by rw [ro.len]; exact il)
  have := moved_get eb er
  rw [hi] at this
  rw [Option.some.inj this] at hc
  exact (ro.each i _ _ er eb).2 c (rotL_mem hc)
theorem last_ok {k : WorkL} (b : Int) (s : PlaceL) : ∀ (us : List PutL) (o : Option Nat), (∀ u ∈ us, u.Ok k) → (∀ c, o = some c → c ∈ k.signs) → ∀ c, us.foldl (lastStep b s) o = some c → c ∈ k.signs
  | [], o, _, ho, c, h => ho c h
  | u :: us, o, hu, ho, c, h => by
    refine last_ok b s us (lastStep b s o u) (fun x hx => hu x (List.mem_cons_of_mem _ hx)) (fun d hd => ?_) c h
    unfold lastStep at hd
    split at hd
    · rw [← Option.some.inj hd]
      exact (hu u (List.mem_cons_self ..)).sg
    · exact ho d hd
theorem laid_ok {c : CourseL} (ok : c.Ok) (b : Int) : ∀ u ∈ laidL c.work.places c.puts b, u.1 ∈ c.work.places ∧ u.2 ∈ c.work.signs := fun u hu => by
  obtain ⟨s, hs, e⟩ := List.mem_filterMap.mp hu
  cases hL : lastL c.puts b s with
  | none =>
    rw [hL] at e
    cases e
  | some d =>
    rw [hL] at e
    cases e
    exact ⟨hs, last_ok b s c.puts none ok.ps (fun c h => by cases h) d hL⟩
theorem cut_ok {k : WorkL} {f : List Nat} (h : FlatOk k f) : RowsOk k (cutL k.bands f) := by
  refine ⟨cutL_len _ _, fun i m b e1 e2 => ?_⟩
  rw [cutL_get k.bands f i b e2] at e1
  have em := Option.some.inj e1
  have sn : longs (k.bands.take (i + 1)) = longs (k.bands.take i) + b.long := by
    rw [List.take_add_one, e2]
    exact longs_snoc _ _
  have le : longs (k.bands.take i) + b.long ≤ f.length := by
    rw [h.len, ← sn]
    exact sum_take_le k.bands (i + 1)
  rw [← em]
  refine ⟨?_, fun c hc => h.each c (List.mem_of_mem_drop (List.mem_of_mem_take hc))⟩
  rw [List.length_take, List.length_drop]
  omega
theorem beat_ok {c : CourseL} {R : List (List Nat)} (ok : c.Ok) (ro : RowsOk c.work R) (b : Int) : RowsOk c.work (beatL c R b) :=
  cut_ok (FlatOk.lays _ (fun u hu => (laid_ok ok b u hu).2) (FlatOk.presses ok.wk _ (moved_ok ro)))
def runL (c : CourseL) (R : List (List Nat)) (b : Int) : Nat → List (List (List Nat))
  | 0 => [R]
  | n + 1 => runL c R b n ++ [beatL c ((runL c R b n).getLastD R) (b + (n : Int) + 1)]
theorem runL_len (c : CourseL) (R : List (List Nat)) (b : Int) : ∀ n, (runL c R b n).length = n + 1
  | 0 => rfl
  | n + 1 => by
    show (runL c R b n ++ [_]).length = _
    rw [List.length_append, runL_len c R b n]
    rfl
theorem runL_ok {c : CourseL} {R : List (List Nat)} (ok : c.Ok) (ro : RowsOk c.work R) (b : Int) : ∀ n, ∀ x ∈ runL c R b n, RowsOk c.work x
  | 0, x, hx => by
    rw [List.mem_singleton.mp hx]
    exact ro
  | n + 1, x, hx => by
    have ih := runL_ok ok ro b n
    rcases List.mem_append.mp hx with hx | hx
    · exact ih x hx
    · rw [List.mem_singleton.mp hx]
      refine beat_ok ok ?_ _
      rw [List.getLastD_eq_getLast?]
      cases e : (runL c R b n).getLast? with
      | none => exact ro
      | some y => exact ih y (List.mem_of_getLast? e)
section
variable {P : Program} {w : World} {K : PySem.W.Frag} {mg : Str → Option Value} {base : Heap} {CC CW CB CP : Addr}
/-- a course's methods -/
structure CourseDefs (P : Program) (w : World) (K : PySem.W.Frag) (mg : Str → Option Value) (base : Heap) (CC CW CB CP : Addr) (k : Nat) : Prop where
  txt : CourseTxt K mg CC
  work : ∃ f fd, Meth K CC "work" f ∧ Binds K fd ["self"] [] ∧ FnOk P w K mg base CX0 k f fd ["self"] (sp_Course_work CC CW CB CP)
  works : ∃ f fd, Meth K CC "works" f ∧ Binds K fd ["self", "press", "beat"] [] ∧ FnOk P w K mg base CX0 k f fd ["self", "press", "beat"] (sp_works CC CW CB CP)
  laid : ∃ f fd, Meth K CC "laid" f ∧ Binds K fd ["self", "beat"] [] ∧ FnOk P w K mg base CX0 k f fd ["self", "beat"] (sp_laid CC CW CB CP)
/-! ### presses_at -/
theorem sc_presses_at : FnScope ["course", "beat", "number"] ["course", "beat"] (defScope s_presses_at) := ⟨rfl, rfl, rfl, by decide +kernel, rfl, by decide +kernel, by decide +kernel⟩
def natsV (l : List Nat) : List V := l.map fun (n : Nat) => V.int (n : Int)
def sp_presses_at (CC CW CB CP : Addr) : Sp := fun vs H Q _ => ∃ (c : Addr) (k : CourseL) (b : Int), vs = [.ref c, .int b] ∧ IsCourse CC CW CB CP H c k ∧ k.Ok ∧ ∀ l H', Same H H' → H l = none → H' l = some (.lst (natsV (workingL k.work.presses k.lifts b))) → Q (.ref l) H'
theorem working_len (rs : List PressL) (ls : List LiftL) (b : Int) (n : Nat) : ((List.range n).filter fun i => worksL rs ls i b).length ≤ n := by
  have := List.length_filter_le (fun i => worksL rs ls i b) (List.range n)
  rw [List.length_range] at this
  exact this
theorem ok_presses_at {f : Addr} {fd : FuncData} {k : Nat} (B : Blt mg) (TC : CourseDefs P w K mg base CC CW CB CP k) (TW : WorkDefs P w K mg base CW CB CP k) (F : Fun K "presses_at" "presses_at" s_presses_at f fd) : FnOk P w K mg base CX0 (k + 1) f fd ["course", "beat"] (sp_presses_at CC CW CB CP) := by
  obtain ⟨fw, fdw, mw, bw, Gw⟩ := TC.work
  obtain ⟨fk, fdk, mk, bk, Gk⟩ := TC.works
  obtain ⟨fp, fdp, mp, bp, Gp⟩ := TW.presses
  refine F.ok sc_presses_at (fun vs H Q E h => ?_) (fun cdv A outer s H vs Q E hr h => ?_)
  · obtain ⟨c, k, b, rfl, _⟩ := h
    rfl
  · obtain ⟨c, k, b, rfl, ic, ok, q⟩ := h
    refine ⟨_, pss_one (ps_ret (pe_lc (own := [("number", 2)]) (g := gName 2) rfl sc_presses_at.nd (pi_range1 (by rfl) B.rng (pa_cons (pe_callB call_len (by rfl) B.len PySem.boot_len (pa_cons (pe_meth0 (pe_meth0 (pv 0) TC.txt.cl mw Gw hr bw .nil pass0) TW.txt.cl mp Gp hr bp .nil pass0) pa_nil)) pa_nil))
      (blkOk_by (own := [("number", 2)]) (N := ["course", "beat", "number"]) (sc := defScope s_presses_at) (by decide +kernel))
      (fun _ _ _ _ _ => pg_name (i := 2) sc_presses_at.nd rfl (Or.inl rfl)) (fun _ _ _ _ _ => pts_one (pt_val (pe_meth (pv 0) TC.txt.cl mk Gk hr bk .nil pass0 (pa_cons (pv 2) (pa_cons (pv 1) pa_nil))))) (fun _ _ _ _ _ => pv 2))), ?_⟩
    obtain ⟨dx, wa, tp, tl, e, z⟩ := id ic
    refine ⟨.ref c, rfl, c, dx, _, rfl, e, courseF_no _ _ _ (by decide +kernel), c, k, rfl, ic, fun wa iw => ?_⟩
    obtain ⟨dw, tb, tq, lp, dn, ew, zw⟩ := id iw
    have p8 := ok.wk.few
    refine ⟨wa, dw, _, rfl, ew, wno _ _ _ _ _ (by decide +kernel), wa, k.work, rfl, iw, fun l m H1 s1 hl pr => ?_⟩
    refine ⟨.ref l, k.work.presses.length, rfl, .inl ⟨_, SqL.of hl, pr.1.symm⟩, (k.work.presses.length : Int), rfl, by omega, by omega, fun D nD => ?_⟩
    rw [Int.toNat_natCast]
    refine lc_v (H := H1) (walk_range (lo := 0) (n := k.work.presses.length)) (fun _ _ => trivial) (fun i _ r => r = natsV ((List.range i).filter fun j => worksL k.work.presses k.lifts j b)) (fun _ => rfl) (fun i _ r hi er => ?_) (fun _ _ _ _ _ er => er) nD ?_ ?_
    · rw [er]
      unfold natsV
      rw [List.length_map]
      have := working_len k.work.presses k.lifts b i
      omega
    · rintro i x H2 H3 r Qy Qn hi sm er ⟨rfl, rfl⟩ qy qn
      have ic2 := ic.same (s1.trans sm)
      obtain ⟨dx2, _, _, _, e2, _⟩ := id ic2
      refine ⟨rfl, .ref c, rfl, c, dx2, _, rfl, e2, courseF_no _ _ _ (by decide +kernel), .int (0 + (i : Int)), rfl, .int b, rfl, c, k, i, b, congrArg (fun z => [V.ref c, V.int z, V.int b]) (Int.zero_add _), ic2, ok.wk, hi, fun H4 s4 => ⟨_, rfl, ?_⟩⟩
      cases hw : worksL k.work.presses k.lifts i b with
      | true =>
        refine yesOf rfl ⟨_, rfl, qy _ _ s4 ?_⟩
        rw [er, List.range_succ, List.filter_append]
        unfold natsV
        rw [List.map_append]
        simp [hw]
      | false =>
        refine noOf rfl (qn _ s4 ?_)
        rw [er, List.range_succ, List.filter_append]
        unfold natsV
        rw [List.map_append]
        simp [hw]
    · intro H2 r s2 er hD
      rw [er] at hD
      refine q D H2 (s1.trans s2) ?_ hD
      cases hz : H D with
      | none => rfl
      | some o =>
        rw [s1 _ _ hz] at nD
        cases nD
/-! ### gone_round -/
theorem sc_gone : FnScope ["text", "many", "cut"] ["text", "many"] (defScope s_gone_round) := ⟨rfl, rfl, rfl, by decide +kernel, rfl, by decide +kernel, by decide +kernel⟩
def sp_gone : Sp := fun vs H Q _ => ∃ (m : List Nat) (i : Int), vs = [.str (tx m), .int i] ∧ 1 ≤ m.length ∧ m.length ≤ 12 ∧ Q (.str (tx (rotL m i))) H
theorem cut_fst (m : List Nat) (a : Nat) (h : a ≤ m.length) : cutS (tx m) none (some (a : Int)) = tx (m.take a) := by
  apply str_ext
  unfold cutS
  rw [tx_list, tx_len, tx_list, HT.sIx_nat, HT.sIx_none, List.drop_zero, Nat.sub_zero, Nat.min_eq_left h]
theorem cut_snd (m : List Nat) (a : Nat) (h : a ≤ m.length) : cutS (tx m) (some (a : Int)) none = tx (m.drop a) := by
  apply str_ext
  unfold cutS
  rw [tx_list, tx_len, tx_list, HT.sIx_nat, HT.sIx_none, Nat.min_eq_left h, ← List.length_drop, List.take_length]
theorem ok_gone {f : Addr} {fd : FuncData} {k : Nat} (B : Blt mg) (F : Fun K "gone_round" "gone_round" s_gone_round f fd) : FnOk P w K mg base CX0 (k + 1) f fd ["text", "many"] sp_gone := by
  refine F.ok sc_gone (fun vs H Q E h => ?_) (fun cdv A outer s H vs Q E hr h => ?_)
  · obtain ⟨m, i, rfl, _⟩ := h
    rfl
  · obtain ⟨m, i, rfl, lo, hi, q⟩ := h
    refine ⟨_, pss_cons (ps_set (i := 2) sc_gone.nd rfl (.inl rfl) (pe_op op_mod (pe_un un_neg (pv 1)) (pe_callB call_len (by rfl) B.len PySem.boot_len (pa_cons (pv 0) pa_nil))))
      (pss_one (ps_ret (pe_op op_add_str (pe_slice sl_str (pv 0) (po_some (pv 2)) po_none) (pe_slice sl_str (pv 0) po_none (po_some (pv 2)))))), ?_⟩
    have fit : (tx m).length ≤ sizeLine := fit_tx (by omega)
    have m0 : 0 ≤ (-i) % (m.length : Int) := Int.emod_nonneg _ (by omega)
    have m1 : (-i) % (m.length : Int) < (m.length : Int) := Int.emod_lt_of_pos _ (by omega)
    unfold rotL at q
    obtain ⟨j, hj⟩ : ∃ j : Nat, (-i) % (m.length : Int) = (j : Int) := ⟨_, (Int.toNat_of_nonneg m0).symm⟩
    rw [hj, Int.toNat_natCast] at q
    have jl : j ≤ m.length := by omega
    refine ⟨.int i, rfl, i, rfl, .str (tx m), rfl, .str (tx m), m.length, rfl, ⟨fit, (tx_len m).symm⟩, -i, (m.length : Int), rfl, rfl, (by show (0 : Int) < (m.length : Int); omega), ?_⟩
    have hm : (fun (i j : Int) => V.int (i % j)) (-i) (m.length : Int) = V.int (j : Nat) := congrArg V.int hj
    rw [hm]
    refine ⟨.str (tx m), rfl, .int (j : Nat), rfl, _, rfl, tx m, rfl, fit, ?_⟩
    rw [cut_snd m j jl]
    refine ⟨.str (tx m), rfl, .int (j : Nat), rfl, _, rfl, tx m, rfl, fit, ?_⟩
    rw [cut_fst m j jl]
    refine ⟨_, _, rfl, rfl, ?_, ?_⟩
    · rw [tx_len, tx_len, List.length_drop, List.length_take]
      exact Nat.le_of_lt (small1000 (by omega))
    · rw [tx_append]
      exact q
/-! ### printed -/
theorem sc_printed : FnScope ["work", "press", "signs", "above", "below"] ["work", "press", "signs"] (defScope s_printed) := ⟨rfl, rfl, rfl, by decide +kernel, rfl, by decide +kernel, by decide +kernel⟩
def sp_printed (CW CB CP : Addr) : Sp := fun vs H Q _ => ∃ (p pr l : Addr) (k : WorkL) (r : PressL) (fl : List Nat), vs = [.ref p, .ref pr, .ref l] ∧ IsWork CW CB CP H p k ∧ k.Ok ∧ IsPress CP H pr r ∧ r ∈ k.presses ∧ H l = some (.lst ((ones fl).map V.str)) ∧ FlatOk k fl ∧ ∀ H', Same H H' → Q (.str (tx [printL k r fl])) H'
theorem ok_printed {f : Addr} {fd : FuncData} {k : Nat} (TW : WorkDefs P w K mg base CW CB CP k) (TP : PressDefs P w K mg base CP k) (F : Fun K "printed" "printed" s_printed f fd) : FnOk P w K mg base CX0 (k + 1) f fd ["work", "press", "signs"] (sp_printed CW CB CP) := by
  obtain ⟨fi, fdi, mi, bi, Gi⟩ := TW.place_in
  obtain ⟨fs, fds, ms, bs, Gs⟩ := TW.signs
  obtain ⟨fa, fda, ma, ba, Ga⟩ := TP.above
  obtain ⟨fb, fdb, mb, bb, Gb⟩ := TP.below
  obtain ⟨ft, fdt, mt, bt, Gt⟩ := TP.table
  refine F.ok sc_printed (fun vs H Q E h => ?_) (fun cdv A outer s H vs Q E hr h => ?_)
  · obtain ⟨p, pr, l, k, r, fl, rfl, _⟩ := h
    rfl
  · obtain ⟨p, pr, l, k, r, fl, rfl, iw, ok, ip, hr_, hl, fo, q⟩ := h
    refine ⟨_, pss_cons (ps_set (i := 3) sc_printed.nd rfl (.inl rfl) (pe_ix ix_list (pv 2) (pe_meth (pv 0) TW.txt.cl mi Gi hr bi .nil pass0 (pa_cons (pe_meth0 (pv 1) TP.txt.cl ma Ga hr ba .nil pass0) pa_nil)) (fun _ _ => rfl)))
      (pss_cons (ps_set (i := 4) sc_printed.nd rfl (.inl rfl) (pe_ix ix_list (pv 2) (pe_meth (pv 0) TW.txt.cl mi Gi hr bi .nil pass0 (pa_cons (pe_meth0 (pv 1) TP.txt.cl mb Gb hr bb .nil pass0) pa_nil)) (fun _ _ => rfl)))
      (pss_one (ps_ret (pe_ix ix_str (pe_ix ix_tup (pe_meth0 (pv 1) TP.txt.cl mt Gt hr bt .nil pass0) (pe_m1 PySem.F.slot_str_index PySem.F.type_str_index mt_sindex (pe_meth0 (pv 0) TW.txt.cl ms Gs hr bs .nil pass0) (pv 3)) (fun _ _ => rfl))
        (pe_m1 PySem.F.slot_str_index PySem.F.type_str_index mt_sindex (pe_meth0 (pv 0) TW.txt.cl ms Gs hr bs .nil pass0) (pv 4)) (fun _ _ => rfl))))), ?_⟩
    have fw := ok.fit r hr_
    obtain ⟨dw, tb, tq, lp, dn, ew, zw⟩ := id iw
    obtain ⟨dx, a, b, t, e, pa⟩ := id ip
    obtain ⟨ea, sa⟩ := fo.at_ fw.ab
    obtain ⟨eb, sb⟩ := fo.at_ fw.be
    obtain ⟨m, em, en, _, m4⟩ := print_at fo fw
    have get : ∀ {i c : Nat}, fl[i]? = some c → ((ones fl).map V.str)[i]? = some (.str (tx [c])) := fun {i c} h => by
      unfold ones
      rw [List.map_map, List.getElem?_map, h]
      rfl
    refine ⟨.ref l, rfl, .ref p, rfl, p, dw, _, rfl, ew, wno _ _ _ _ _ (by decide +kernel), .ref pr, rfl, pr, dx, _, rfl, e, no_above _ _ _ _, pr, r, rfl, ip, fun a1 ha1 => ?_⟩
    refine ⟨p, a1, k, r.above, rfl, iw, ha1, places_low ok.bs.each _ fw.ab, fw.ab, fun H1 s1 => ?_⟩
    refine ⟨l, _, _, _, rfl, rfl, SqL.of (s1 _ _ hl), atI_nat (get ea), ?_⟩
    refine ⟨.ref l, rfl, .ref p, rfl, p, dw, _, rfl, s1 _ _ ew, wno _ _ _ _ _ (by decide +kernel), .ref pr, rfl, pr, dx, _, rfl, s1 _ _ e, no_below _ _ _ _, pr, r, rfl, ip.kn (Kn.of s1), fun b1 hb1 => ?_⟩
    refine ⟨p, b1, k, r.below, rfl, iw.same s1, hb1, places_low ok.bs.each _ fw.be, fw.be, fun H2 s2 => ?_⟩
    have s12 := s1.trans s2
    refine ⟨l, _, _, _, rfl, rfl, SqL.of (s12 _ _ hl), atI_nat (get eb), ?_⟩
    refine ⟨.ref pr, rfl, pr, dx, _, rfl, s12 _ _ e, no_table _ _ _ _, pr, r, rfl, ip.kn (Kn.of s12), fun t1 ht1 => ?_⟩
    refine ⟨.ref p, rfl, p, dw, _, rfl, s12 _ _ ew, wno _ _ _ _ _ (by decide +kernel), p, k, rfl, iw.same s12, ⟨_, rfl⟩, .str (tx [signAt k fl r.above]), rfl, tx k.signs, tx [signAt k fl r.above], k.signs.idxOf (signAt k fl r.above), [], rfl, rfl, occ_first sa, ?_⟩
    refine ⟨t1, _, _, _, rfl, rfl, SqT.of ht1, atI_nat (txs_get em), ?_⟩
    refine ⟨.ref p, rfl, p, dw, _, rfl, s12 _ _ ew, wno _ _ _ _ _ (by decide +kernel), p, k, rfl, iw.same s12, ⟨_, rfl⟩, .str (tx [signAt k fl r.below]), rfl, tx k.signs, tx [signAt k fl r.below], k.signs.idxOf (signAt k fl r.below), [], rfl, rfl, occ_first sb, ?_⟩
    refine ⟨tx m, _, printL k r fl, rfl, rfl, fit_tx (by omega), ?_, q H2 s12⟩
    rw [tx_list]
    exact atI_nat en
end
end K23
set_option Elab.async false
set_option linter.all false
set_option maxRecDepth 100000
set_option maxHeartbeats 2000000
/-! Beats done, runs. -/
namespace K23
open PySem PySem.Spec PyProof.Rows L2 Bp
section
variable {P : Program} {w : World} {K : PySem.W.Frag} {mg : Str → Option Value} {base : Heap} {CC CW CB CP : Addr}
theorem ix_in {n j : Nat} (h : j < n) : ixN n (j : Int) = some j := by
  unfold ixN
  rw [if_pos (by omega), if_pos (by omega), Int.toNat_natCast]
theorem ones_put (f : List Nat) (i c : Nat) : ((ones f).map V.str).set i (.str (tx [c])) = (ones (f.set i c)).map V.str := by
  unfold ones
  rw [List.map_map, List.map_map, List.map_set]
  rfl
theorem flat_txs (L : List (List Nat)) : Txt.join (tx []) (L.map tx) = tx L.flatten := by
  rw [join_empty, List.map_map]
  have e : L.map ((fun p : Str => p.cps.toList) ∘ tx) = L := by
    refine (List.map_congr_left fun m _ => ?_).trans (List.map_id L)
    exact tx_list m
  rw [e]
theorem signs_of (l : List Nat) : signsS (tx l) = ones l := by
  unfold signsS ones
  rw [tx_list]
  rfl
theorem txs_texts (L : List (List Nat)) : txs L = (L.map tx).map V.str := by
  unfold txs
  rw [List.map_map]
  rfl
theorem same_put {H0 H1 : Hp} {p : Addr} {o : HO} (s : Same H0 H1) (n : H0 p = none) : Same H0 (upd H1 p o) := fun b x e => by
  rw [upd_ne (ne_of_none e n)]
  exact s b x e
theorem sum_flat (L : List (List Nat)) : ((L.map tx).map (·.length)).sum = L.flatten.length := by
  induction L with
  | nil => rfl
  | cons m L ih =>
    rw [List.map_cons, List.map_cons, List.sum_cons, ih, tx_len, List.flatten_cons, List.length_append]
/-! ### signs_printed -/
abbrev NsSP : List Str := ["work", "rows", "numbers", "presses", "moved", "signs", "number", "band", "text"]
theorem sc_signs_printed : FnScope NsSP ["work", "rows", "numbers"] (defScope s_signs_printed) := ⟨rfl, rfl, rfl, by decide +kernel, rfl, by decide +kernel, by decide +kernel⟩
def sp_signs_printed (CW CB CP : Addr) : Sp := fun vs H Q _ => ∃ (wa t lw : Addr) (k : WorkL) (R : List (List Nat)) (ns : List Nat), vs = [.ref wa, .ref t, .ref lw] ∧ IsWork CW CB CP H wa k ∧ k.Ok ∧ H t = some (.tup (txs R)) ∧ RowsOk k R ∧ H lw = some (.lst (natsV ns)) ∧ (∀ n ∈ ns, n < k.presses.length) ∧
  ∀ ls H', H ls = none → Same H H' → H' ls = some (.lst ((ones (ns.foldl (pressL k) (movedL k.bands R).flatten)).map V.str)) → Q (.ref ls) H'
theorem ok_signs_printed {f : Addr} {fd : FuncData} {k : Nat} (B : Blt mg) (zi : mg "zip" = none) (TW : WorkDefs P w K mg base CW CB CP k) (TB : BandDefs P w K mg base CB k) (TP : PressDefs P w K mg base CP k)
    (D1 : Def P w K mg base CX0 k "gone_round" s_gone_round ["text", "many"] sp_gone) (D3 : Def P w K mg base CX0 k "printed" s_printed ["work", "press", "signs"] (sp_printed CW CB CP))
    (F : Fun K "signs_printed" "signs_printed" s_signs_printed f fd) : FnOk P w K mg base CX0 (k + 1) f fd ["work", "rows", "numbers"] (sp_signs_printed CW CB CP) := by
  obtain ⟨f1, fd1, F1, b1, g1, G1⟩ := D1.ex
  obtain ⟨f3, fd3, F3, b3, g3, G3⟩ := D3.ex
  obtain ⟨fp, fdp, mp, bp, Gp⟩ := TW.presses
  obtain ⟨fb, fdb, mb, bb, Gb⟩ := TW.bands
  obtain ⟨fi, fdi, mi, bi, Gi⟩ := TW.place_in
  obtain ⟨fa, fda, ma, ba, Ga⟩ := TB.pace
  obtain ⟨fo, fdo, mo, bo, Go⟩ := TP.below
  refine F.ok sc_signs_printed (fun vs H Q E h => ?_) (fun cdv A outer s H vs Q E hr h => ?_)
  · obtain ⟨wa, t, lw, k, R, ns, rfl, _⟩ := h
    rfl
  · obtain ⟨wa, t, lw, k, R, ns, rfl, iw, ok, ht, ro, hlw, nlt, q⟩ := h
    refine ⟨_, pss_cons (ps_set (i := 3) sc_signs_printed.nd rfl (.inl rfl) (pe_meth0 (pv 0) TW.txt.cl mp Gp hr bp .nil pass0))
      (pss_cons (ps_setLc (i := 4) (own := [("band", 7), ("text", 8)]) (g := gTup K 2 (gCons (gName 7) (gCons (gName 8) gNil))) (tt := tYes) rfl sc_signs_printed.nd rfl rfl (by rfl) (pi_zipM true false (by rfl) zi (pa_cons (pe_meth0 (pv 0) TW.txt.cl mb Gb hr bb .nil pass0) (pa_cons (pv 1) pa_nil)))
        (blkOk_by (own := [("band", 7), ("text", 8)]) (N := NsSP) (sc := defScope s_signs_printed) (by decide +kernel))
        (fun _ _ _ _ _ => pg_tup rfl (pgs_cons (pg_name (i := 7) sc_signs_printed.nd rfl (Or.inl rfl)) (pgs_cons (pg_name (i := 8) sc_signs_printed.nd rfl (Or.inl rfl)) pgs_nil))) (fun _ _ _ _ _ => pts_nil)
        (fun _ _ _ _ _ => pe_call G1 hr rfl g1 F1.kp b1 .nil pass0 (pa_cons (pv 8) (pa_cons (pe_meth0 (pv 7) TB.txt.cl ma Ga hr ba .nil pass0) pa_nil))))
      (pss_cons (ps_set (i := 5) sc_signs_printed.nd rfl (.inl rfl) (pe_callTy (call_list_text rfl) (by rfl) B.list (by decide +kernel) (pa_cons (pe_join pe_str (pv 4)) pa_nil)))
      (pss_cons (ps_for PassesOwn.never rfl (pi_list (pv 2)) (pg_name (i := 6) sc_signs_printed.nd rfl (Or.inl rfl))
        (pss_one (ps_asg (pe_call G3 hr rfl g3 F3.kp b3 .nil pass0 (pa_cons (pv 0) (pa_cons (pe_ix ix_list (pv 3) (pv 6) (fun _ _ => rfl)) (pa_cons (pv 5) pa_nil))))
          (pg_sub (pv 5) (pe_meth (pv 0) TW.txt.cl mi Gi hr bi .nil pass0 (pa_cons (pe_meth0 (pe_ix ix_list (pv 3) (pv 6) (fun _ _ => rfl)) TP.txt.cl mo Go hr bo .nil pass0) pa_nil)) set_list))))
      (pss_one (ps_ret (pv 5)))))), ?_⟩
    have bok := ok.bs
    have b6 := bok.hi
    have all : longs k.bands ≤ 40 := bok.all
    obtain ⟨dw, tb, tq, lp0, dn, ew, zw⟩ := id iw
    refine ⟨.ref wa, rfl, wa, dw, _, rfl, ew, wno _ _ _ _ _ (by decide +kernel), wa, k, rfl, iw, fun lp m H1 s1 hlp pr => ?_⟩
    refine ⟨.ref wa, rfl, wa, dw, _, rfl, s1 _ _ ew, wno _ _ _ _ _ (by decide +kernel), wa, k, rfl, iw.same s1, fun lb ps H2 s2 hlb ar => ?_⟩
    have s12 := s1.trans s2
    have ln : (ps.map V.ref).length = k.bands.length := by rw [List.length_map, ar.1]
    have lr : (ps.map V.ref).length = (txs R).length := by rw [ln, txs_len, ro.len]
    refine ⟨.ref t, rfl, lb, t, ps.map V.ref, txs R, rfl, SqL.of hlb, SqT.of (s12 _ _ ht), fun D nD => ?_⟩
    refine lc_v (H := H2) (walk_zipM (K := K) (l1 := true) (l2 := false) (a := lb) (b := t) lr) (fun H3 sm => ⟨SqL.of (sm _ _ hlb), SqT.of (sm _ _ (s12 _ _ ht))⟩) (fun i _ r => r = txs ((movedL k.bands R).take i)) (fun _ => rfl) (fun i _ r hi er => ?_) (fun _ _ _ _ _ er => er) nD ?_ ?_
    · rw [er, txs_len, List.length_take]
      omega
    · rintro i x H3 H4 r Qy Qn hi sm er ⟨T, x1, x2, rfl, nT, rfl, e1, e2⟩ qy _
      obtain ⟨pb, bb, rfl, ep, eb, ib⟩ := (ar.kn (Kn.of sm)).at_ e1
      obtain ⟨m1, em⟩ : ∃ m, R[i]? = some m := ⟨R[i]'(by rw [ro.len, ← ln]; exact hi), List.getElem?_eq_getElem _⟩
      have e3 := txs_get em
      rw [e2] at e3
      obtain rfl := Option.some.inj e3
      have okb := bok.each bb (List.mem_of_getElem? eb)
      have lm := (ro.each i m1 bb em eb).1
      have lo := okb.lo
      have hi12 := okb.hi
      have sT := same_new (o := .tup [.ref pb, .str (tx m1)]) nT
      have ib2 := ib.kn (Kn.of sT)
      obtain ⟨dxb, eb2⟩ := id ib2
      refine ⟨T, _, rfl, SqT.of upd_same, rfl, _, _, rfl, _, _, rfl, rfl, rfl, yes_kept ?_⟩
      refine ⟨.str (tx m1), rfl, .ref pb, rfl, pb, dxb, _, rfl, eb2, no_pace bb, pb, bb, rfl, ib2, m1, bb.pace, rfl, by omega, by omega, qy _ _ sT ?_⟩
      rw [er, List.take_add_one, moved_get eb em]
      exact (txs_snoc _ _).symm
    intro H3 r s3 er hD
    have fo := moved_ok ro
    have ml_ : (ps.map V.ref).length = (movedL k.bands R).length := by rw [ln, moved_len ro.len]
    rw [er, ml_, List.take_length, txs_texts] at hD
    have s13 := s12.trans s3
    have flen := fo.len
    refine ⟨⟨_, rfl⟩, .ref D, rfl, tx [], D, (movedL k.bands R).map tx, tx_nil ▸ rfl, rfl, .inl (SqL.of hD), ?_, ?_⟩
    · rw [sum_flat, tx_len, flen]
      simp
      omega
    rw [flat_txs]
    have q1 : ∀ ls H', H ls = none → Same H H' → H' ls = some (.lst ((ones (ns.foldl (pressL k) (movedL k.bands R).flatten)).map V.str)) → Q (.ref ls) H' := q
    generalize (movedL k.bands R).flatten = f0 at fo flen q1
    refine ⟨tx f0, rfl, fit_tx (by omega), fun ls nls => ?_⟩
    rw [signs_of]
    have n0 : H ls = none := none_back s13 nls
    have s4 : Same H3 (upd H3 ls (.lst ((ones f0).map V.str))) := same_new nls
    have s14 := s13.trans s4
    have hls4 : (upd H3 ls (.lst ((ones f0).map V.str))) ls = some (.lst ((ones f0).map V.str)) := upd_same
    generalize upd H3 ls (.lst ((ones f0).map V.str)) = H4 at s4 s14 hls4
    have lwls : lw ≠ ls := fun zz => by
      rw [zz, n0] at hlw
      cases hlw
    have hlp3 := (s2.trans s3) _ _ hlp
    have get : ∀ {H' : Hp}, Same H3 H' → H' ls = H' ls ∧ H' lp = some (.lst m) ∧ Presses CP H' m k.presses ∧ IsWork CW CB CP H' wa k := fun {H'} sm => ⟨rfl, sm _ _ hlp3, pr.imp (RPress.kn (Kn.of ((s2.trans s3).trans sm))), iw.same (s13.trans sm)⟩
    refine ⟨.ref lw, rfl, lw, rfl, ⟨_, SqL.of (s14 _ _ hlw)⟩, ?_⟩
    refine for_it (walk_list (K := K) (a := lw) (xs := natsV ns)) (fun i σ H' => ∃ v6, σ = [some (.ref wa), some (.ref t), some (.ref lw), some (.ref lp), some (.ref D), some (.ref ls), v6, none, none] ∧ Same H3 H' ∧ H' lw = some (.lst (natsV ns)) ∧
      H' ls = some (.lst ((ones ((ns.take i).foldl (pressL k) f0)).map V.str))) ⟨none, rfl, s4, s14 _ _ hlw, hls4⟩ (fun i σ H' _ z => by obtain ⟨_, _, _, z, _⟩ := z; exact SqL.of z) ?_ ?_
    · rintro i x σ H' H6 hi ⟨v7, rfl, sm, hlw', hls'⟩ ⟨rfl, hx⟩
      obtain ⟨n, en, rfl⟩ : ∃ n, ns[i]? = some n ∧ x = .int (n : Int) := by
        unfold natsV at hx
        rw [List.getElem?_map] at hx
        cases hw : ns[i]? with
        | none =>
          rw [hw] at hx
          cases hx
        | some n =>
          rw [hw] at hx
          exact ⟨n, rfl, (Option.some.inj hx).symm⟩
      have nl : n < k.presses.length := nlt n (List.mem_of_getElem? en)
      obtain ⟨_, hlp', pr', iw'⟩ := get sm
      have er' : k.presses[n]? = some k.presses[n] := List.getElem?_eq_getElem nl
      obtain ⟨v, ev, pa, rfl, ip⟩ := pr'.of er'
      generalize k.presses[n] = r1 at er' ip
      have fw := ok.fit r1 (List.mem_of_getElem? er')
      have fi_ := FlatOk.presses ok (ns.take i) fo
      have nx : ((ns.take (i + 1)).foldl (pressL k) f0) = pressL k ((ns.take i).foldl (pressL k) f0) n := by
        rw [List.take_add_one, en]
        show List.foldl _ _ (_ ++ [n]) = _
        rw [List.foldl_append]
        rfl
      generalize (ns.take i).foldl (pressL k) f0 = f1 at hls' fi_ nx
      have pl : pressL k f1 n = f1.set (k.places.idxOf r1.below) (printL k r1 f1) := by
        unfold pressL
        rw [er']
      rw [pl] at nx
      refine ⟨.ref wa, rfl, .ref lp, rfl, .int n, rfl, lp, _, _, _, rfl, rfl, SqL.of hlp', atI_nat ev, .ref ls, rfl, wa, pa, ls, k, r1, f1, rfl, iw', ok, ip, List.mem_of_getElem? er', hls', fi_, fun H7 s7 => ?_⟩
      obtain ⟨_, hlp7, pr7, iw7⟩ := get (sm.trans s7)
      obtain ⟨dw7, tb7, tq7, lp7, dn7, ew7, zw7⟩ := id iw7
      have ip7 := ip.kn (Kn.of s7)
      obtain ⟨dp7, a7, b7, t7, ep7, _⟩ := id ip7
      refine ⟨.ref ls, rfl, .ref wa, rfl, wa, dw7, _, rfl, ew7, wno _ _ _ _ _ (by decide +kernel), .ref lp, rfl, .int n, rfl, lp, _, _, _, rfl, rfl, SqL.of hlp7, atI_nat ev, pa, dp7, _, rfl, ep7, no_below _ _ _ _, pa, r1, rfl, ip7, fun bq hbq => ?_⟩
      refine ⟨wa, bq, k, r1.below, rfl, iw7, hbq, places_low bok.each _ fw.be, fw.be, fun H8 s8 => ?_⟩
      have hls8 := s8 _ _ (s7 _ _ hls')
      refine ⟨ls, _, _, k.places.idxOf r1.below, rfl, rfl, hls8, ix_in (by rw [List.length_map, ones_len]; exact fi_.lt fw.be), ?_⟩
      refine ⟨_, rfl, same_put (sm.trans (s7.trans s8)) nls, ?_, ?_⟩
      · rw [upd_ne lwls]
        exact s8 _ _ (s7 _ _ hlw')
      · rw [upd_same, ones_put, nx]
    rintro σ H6 ⟨v7, rfl, sm6, _, hls6⟩
    have lw_ : (natsV ns).length = ns.length := by
      unfold natsV
      rw [List.length_map]
    rw [lw_, List.take_length] at hls6
    exact ⟨.ref ls, rfl, q1 ls H6 n0 (s13.trans sm6) hls6⟩
/-! ### beat_done -/
abbrev NsBD : List Str := ["course", "rows", "beat", "work", "signs", "place", "sign"]
theorem sc_beat_done : FnScope NsBD ["course", "rows", "beat"] (defScope s_beat_done) := ⟨rfl, rfl, rfl, by decide +kernel, rfl, by decide +kernel, by decide +kernel⟩
def sp_beat_done (CC CW CB CP : Addr) : Sp := fun vs H Q _ => ∃ (c t : Addr) (k : CourseL) (R : List (List Nat)) (b : Int), vs = [.ref c, .ref t, .int b] ∧ IsCourse CC CW CB CP H c k ∧ k.Ok ∧ H t = some (.tup (txs R)) ∧ RowsOk k.work R ∧
  ∀ u H', Same H H' → H' u = some (.tup (txs (beatL k R b))) → Q (.ref u) H'
theorem ok_beat_done {f : Addr} {fd : FuncData} {k : Nat} (TC : CourseDefs P w K mg base CC CW CB CP k) (TW : WorkDefs P w K mg base CW CB CP k)
    (D1 : Def P w K mg base CX0 k "signs_printed" s_signs_printed ["work", "rows", "numbers"] (sp_signs_printed CW CB CP)) (D2 : Def P w K mg base CX0 k "presses_at" s_presses_at ["course", "beat"] (sp_presses_at CC CW CB CP))
    (D4 : Def P w K mg base CX0 k "rows_of" s_rows_of ["work", "signs"] (sp_rows_of CW CB CP)) (F : Fun K "beat_done" "beat_done" s_beat_done f fd) : FnOk P w K mg base CX0 (k + 1) f fd ["course", "rows", "beat"] (sp_beat_done CC CW CB CP) := by
  obtain ⟨f1, fd1, F1, b1, g1, G1⟩ := D1.ex
  obtain ⟨f2, fd2, F2, b2, g2, G2⟩ := D2.ex
  obtain ⟨f4, fd4, F4, b4, g4, G4⟩ := D4.ex
  obtain ⟨fw, fdw, mw, bw, Gw⟩ := TC.work
  obtain ⟨fl, fdl, ml, bl, Gl⟩ := TC.laid
  obtain ⟨fi, fdi, mi, bi, Gi⟩ := TW.place_in
  refine F.ok sc_beat_done (fun vs H Q E h => ?_) (fun cdv A outer s H vs Q E hr h => ?_)
  · obtain ⟨c, t, k, R, b, rfl, _⟩ := h
    rfl
  · obtain ⟨c, t, k, R, b, rfl, ic, ok, ht, ro, q⟩ := h
    refine ⟨_, pss_cons (ps_set (i := 3) sc_beat_done.nd rfl (.inl rfl) (pe_meth0 (pv 0) TC.txt.cl mw Gw hr bw .nil pass0))
      (pss_cons (ps_set (i := 4) sc_beat_done.nd rfl (.inl rfl) (pe_call G1 hr rfl g1 F1.kp b1 .nil pass0 (pa_cons (pv 3) (pa_cons (pv 1) (pa_cons (pe_call G2 hr rfl g2 F2.kp b2 .nil pass0 (pa_cons (pv 0) (pa_cons (pv 2) pa_nil))) pa_nil)))))
      (pss_cons (ps_for PassesOwn.never rfl (pi_list (pe_meth (pv 0) TC.txt.cl ml Gl hr bl .nil pass0 (pa_cons (pv 2) pa_nil))) (pg_tup rfl (pgs_cons (pg_name (i := 5) sc_beat_done.nd rfl (Or.inl rfl)) (pgs_cons (pg_name (i := 6) sc_beat_done.nd rfl (Or.inl rfl)) pgs_nil)))
        (pss_one (ps_asg (pv 6) (pg_sub (pv 4) (pe_meth (pv 3) TW.txt.cl mi Gi hr bi .nil pass0 (pa_cons (pv 5) pa_nil)) set_list))))
      (pss_one (ps_ret (pe_call G4 hr rfl g4 F4.kp b4 .nil pass0 (pa_cons (pv 3) (pa_cons (pv 4) pa_nil))))))), ?_⟩
    have bok := ok.wk.bs
    obtain ⟨dx, wa0, tp, tl, e, z⟩ := id ic
    refine ⟨.ref c, rfl, c, dx, _, rfl, e, courseF_no _ _ _ (by decide +kernel), c, k, rfl, ic, fun wa iw => ?_⟩
    obtain ⟨dw, tb, tq, lp0, dn, ew, zw⟩ := id iw
    have fo := moved_ok ro
    refine ⟨.ref wa, rfl, .ref t, rfl, .ref c, rfl, .int b, rfl, c, k, b, rfl, ic, ok, fun lw H3 s13 nlw hlw => ?_⟩
    refine ⟨wa, t, lw, k.work, R, workingL k.work.presses k.lifts b, rfl, iw.same s13, ok.wk, s13 _ _ ht, ro, hlw, fun n hn => List.mem_range.mp (List.mem_filter.mp hn).1, fun ls H6 nls sm6 hls6 => ?_⟩
    have q1 : ∀ u H', Same H H' → H' u = some (.tup (txs (cutL k.work.bands ((laidL k.work.places k.puts b).foldl (layL k.work) ((workingL k.work.presses k.lifts b).foldl (pressL k.work) (movedL k.work.bands R).flatten))))) → Q (.ref u) H' := q
    have n0 : H ls = none := none_back s13 nls
    have get : ∀ {H' : Hp}, Same H3 H' → True ∧ True ∧ True ∧ IsWork CW CB CP H' wa k.work := fun {H'} sm => ⟨trivial, trivial, trivial, iw.same (s13.trans sm)⟩
    have fo1 := FlatOk.presses ok.wk (workingL k.work.presses k.lifts b) fo
    generalize (workingL k.work.presses k.lifts b).foldl (pressL k.work) (movedL k.work.bands R).flatten = f1 at hls6 fo1 q1
    -- what is laid
    refine ⟨.ref c, rfl, c, dx, _, rfl, (s13.trans sm6) _ _ e, courseF_no _ _ _ (by decide +kernel), .int b, rfl, c, k, b, rfl, ic.same (s13.trans sm6), ok, fun ll us H7 s7 nll hll el => ⟨ll, rfl, ⟨_, SqL.of hll⟩, ?_⟩⟩
    have llls : ll ≠ ls := fun zz => by
      rw [zz, hls6] at nll
      cases nll
    have lok := laid_ok ok b
    refine for_it (walk_list (K := K) (a := ll) (xs := us)) (fun i σ H' => ∃ v8 v9, σ = [some (.ref c), some (.ref t), some (.int b), some (.ref wa), some (.ref ls), v8, v9] ∧ Same H3 H' ∧ H' ll = some (.lst us) ∧ Each RLaid H' us (laidL k.work.places k.puts b) ∧
      H' ls = some (.lst ((ones (((laidL k.work.places k.puts b).take i).foldl (layL k.work) f1)).map V.str))) ⟨none, none, rfl, sm6.trans s7, hll, el, s7 _ _ hls6⟩ (fun i σ H' _ z => by obtain ⟨_, _, _, _, z, _⟩ := z; exact SqL.of z) ?_ ?_
    · rintro i x σ H' H8 hi ⟨v8, v9, rfl, sm, hll', el', hls'⟩ ⟨rfl, hx⟩
      obtain ⟨u, eu, tt, tq', rfl, htt, ip⟩ := el'.at_ hx
      obtain ⟨up, us_⟩ := lok u (List.mem_of_getElem? eu)
      obtain ⟨_, _, _, iw'⟩ := get sm
      obtain ⟨dw7, tb7, tq7, lp7, dn7, ew7, zw7⟩ := id iw'
      have fi_ := FlatOk.lays ((laidL k.work.places k.puts b).take i) (fun u hu => (lok u (List.mem_of_mem_take hu)).2) fo1
      have nx : (((laidL k.work.places k.puts b).take (i + 1)).foldl (layL k.work) f1) = layL k.work (((laidL k.work.places k.puts b).take i).foldl (layL k.work) f1) u := by
        rw [List.take_add_one, eu]
        show List.foldl _ _ (_ ++ [u]) = _
        rw [List.foldl_append]
        rfl
      generalize ((laidL k.work.places k.puts b).take i).foldl (layL k.work) f1 = f2 at hls' fi_ nx
      refine ⟨tt, _, rfl, SqT.of htt, rfl, _, _, rfl, _, _, rfl, rfl, ?_⟩
      refine ⟨.str (tx [u.2]), rfl, .ref ls, rfl, .ref wa, rfl, wa, dw7, _, rfl, ew7, wno _ _ _ _ _ (by decide +kernel), .ref tq', rfl, wa, tq', k.work, u.1, rfl, iw', ip, places_low bok.each _ up, up, fun H9 s9 => ?_⟩
      have hls9 := s9 _ _ hls'
      refine ⟨ls, _, _, k.work.places.idxOf u.1, rfl, rfl, hls9, ix_in (by rw [List.length_map, ones_len]; exact fi_.lt up), ?_⟩
      have kn := (Kn.of s9).trans (Kn.put (ys := ((ones f2).map V.str).set (k.work.places.idxOf u.1) (.str (tx [u.2]))) hls9)
      refine ⟨_, _, rfl, same_put (sm.trans s9) nls, ?_, el'.imp (RLaid.kn kn), ?_⟩
      · rw [upd_ne llls]
        exact s9 _ _ hll'
      · rw [upd_same, ones_put, nx]
        rfl
    rintro σ H8 ⟨v8, v9, rfl, sm8, _, _, hls8⟩
    have fo2 := FlatOk.lays (laidL k.work.places k.puts b) (fun u hu => (lok u hu).2) fo1
    rw [el.1, List.take_length] at hls8
    generalize (laidL k.work.places k.puts b).foldl (layL k.work) f1 = f2 at hls8 fo2 q1
    refine ⟨.ref wa, rfl, .ref ls, rfl, wa, ls, k.work, f2, rfl, iw.same (s13.trans sm8), bok, hls8, fo2.len, fun u H9 s9 hu => q1 u H9 (s13.trans (sm8.trans s9)) hu⟩
end
end K23
set_option Elab.async false
set_option linter.all false
set_option maxRecDepth 100000
set_option maxHeartbeats 2000000
/-! Next rows, runs. -/
namespace K23
open PySem PySem.Spec PyProof.Rows L2 Bp
def RRows : Hp → V → List (List Nat) → Prop := fun H v R => ∃ t, v = .ref t ∧ H t = some (.tup (txs R))
theorem RRows.kn {H H' : Hp} (k : Kn H H') : ∀ v R, RRows H v R → RRows H' v R := fun v R ⟨t, e, h⟩ => ⟨t, e, k _ _ (by intro xs z; cases z) h⟩
theorem at_last {α : Type} {xs : List α} {x : α} (h : xs.getLast? = some x) : atI xs (-1) = some x := by
  have ne : xs.length ≠ 0 := fun z => by
    have : xs = [] := List.length_eq_zero_iff.mp z
    rw [this] at h
    cases h
  unfold atI ixN
  rw [if_neg (by decide), if_pos (by omega)]
  show xs[((-1 : Int) + (xs.length : Int)).toNat]? = some x
  rw [show ((-1 : Int) + (xs.length : Int)).toNat = xs.length - 1 by omega, ← List.getLast?_eq_getElem?]
  exact h
theorem runL_last (c : CourseL) (R : List (List Nat)) (b : Int) (n : Nat) : (runL c R b n).getLast? = some ((runL c R b n).getLastD R) := by
  rw [List.getLastD_eq_getLast?]
  cases e : (runL c R b n).getLast? with
  | some x => rfl
  | none =>
    have : runL c R b n = [] := List.getLast?_eq_none_iff.mp e
    have l := runL_len c R b n
    rw [this] at l
    cases l
section
variable {P : Program} {w : World} {K : PySem.W.Frag} {mg : Str → Option Value} {base : Heap} {CC CW CB CP : Addr}
/-! ### next_rows -/
theorem sc_next_rows : FnScope ["course", "rows", "beat"] ["course", "rows", "beat"] (defScope s_next_rows) := ⟨rfl, rfl, rfl, by decide +kernel, rfl, by decide +kernel, by decide +kernel⟩
def sp_next_rows (CC CW CB CP : Addr) : Sp := fun vs H Q _ => ∃ (c t : Addr) (k : CourseL) (R : List (List Nat)) (b : Int), vs = [.ref c, .ref t, .int b] ∧ IsCourse CC CW CB CP H c k ∧ k.Ok ∧ H t = some (.tup (txs R)) ∧ RowsOk k.work R ∧
  ∀ u H', Same H H' → H' u = some (.tup (txs (beatL k R (b + 1)))) → Q (.ref u) H'
theorem ok_next_rows {f : Addr} {fd : FuncData} {k : Nat} (TC : CourseDefs P w K mg base CC CW CB CP k) (D1 : Def P w K mg base CX0 k "need_rows" s_need_rows ["work", "rows"] (sp_need_rows CW CB CP)) (D2 : Def P w K mg base CX0 k "beat_done" s_beat_done ["course", "rows", "beat"] (sp_beat_done CC CW CB CP))
    (F : Fun K "next_rows" "next_rows" s_next_rows f fd) : FnOk P w K mg base CX0 (k + 1) f fd ["course", "rows", "beat"] (sp_next_rows CC CW CB CP) := by
  obtain ⟨f1, fd1, F1, b1, g1, G1⟩ := D1.ex
  obtain ⟨f2, fd2, F2, b2, g2, G2⟩ := D2.ex
  obtain ⟨fw, fdw, mw, bw, Gw⟩ := TC.work
  refine F.ok sc_next_rows (fun vs H Q E h => ?_) (fun cdv A outer s H vs Q E hr h => ?_)
  · obtain ⟨c, t, k, R, b, rfl, _⟩ := h
    rfl
  · obtain ⟨c, t, k, R, b, rfl, ic, ok, ht, ro, q⟩ := h
    refine ⟨_, pss_cons (ps_expr (pe_call G1 hr rfl g1 F1.kp b1 .nil pass0 (pa_cons (pe_meth0 (pv 0) TC.txt.cl mw Gw hr bw .nil pass0) (pa_cons (pv 1) pa_nil))))
      (pss_one (ps_ret (pe_call G2 hr rfl g2 F2.kp b2 .nil pass0 (pa_cons (pv 0) (pa_cons (pv 1) (pa_cons (pe_op op_add (pv 2) pe_int) pa_nil)))))), ?_⟩
    obtain ⟨dx, wa0, tp, tl, e, z⟩ := id ic
    refine ⟨.ref c, rfl, c, dx, _, rfl, e, courseF_no _ _ _ (by decide +kernel), c, k, rfl, ic, fun wa iw => ?_⟩
    refine ⟨.ref t, rfl, wa, t, k.work, R, rfl, iw, ok.wk.bs, ht, ro, fun H1 s1 => ?_⟩
    exact ⟨.ref c, rfl, .ref t, rfl, .int b, rfl, b, 1, rfl, rfl, c, t, k, R, b + 1, rfl, ic.same s1, ok, s1 _ _ ht, ro, fun u H' s2 hu => q u H' (s1.trans s2) hu⟩
/-! ### run -/
theorem sc_run : FnScope ["course", "rows", "beats", "begin", "told", "beat"] ["course", "rows", "beats", "begin"] (defScope s_run) := ⟨rfl, rfl, rfl, by decide +kernel, rfl, by decide +kernel, by decide +kernel⟩
def sp_run (CC CW CB CP : Addr) : Sp := fun vs H Q _ => ∃ (c t : Addr) (k : CourseL) (R : List (List Nat)) (n : Nat) (b : Int), vs = [.ref c, .ref t, .int n, .int b] ∧ IsCourse CC CW CB CP H c k ∧ k.Ok ∧ H t = some (.tup (txs R)) ∧ RowsOk k.work R ∧ n ≤ 1000 ∧
  ∀ l m H', Same H H' → H l = none → H' l = some (.lst m) → Each RRows H' m (runL k R b n) → Q (.ref l) H'
theorem ok_run {f : Addr} {fd : FuncData} {k : Nat} (B : Blt mg) (TC : CourseDefs P w K mg base CC CW CB CP k) (D1 : Def P w K mg base CX0 k "need_rows" s_need_rows ["work", "rows"] (sp_need_rows CW CB CP)) (D2 : Def P w K mg base CX0 k "beat_done" s_beat_done ["course", "rows", "beat"] (sp_beat_done CC CW CB CP))
    (F : FD K "run" "run" s_run [] [("begin", .int 0)] f fd) : FnOk P w K mg base CX0 (k + 1) f fd ["course", "rows", "beats", "begin"] (sp_run CC CW CB CP) := by
  obtain ⟨f1, fd1, F1, b1, g1, G1⟩ := D1.ex
  obtain ⟨f2, fd2, F2, b2, g2, G2⟩ := D2.ex
  obtain ⟨fw, fdw, mw, bw, Gw⟩ := TC.work
  refine F.ok sc_run (fun vs H Q E h => ?_) (fun cdv A outer s H vs Q E hr h => ?_)
  · obtain ⟨c, t, k, R, n, b, rfl, _⟩ := h
    rfl
  · obtain ⟨c, t, k, R, n, b, rfl, ic, ok, ht, ro, few, q⟩ := h
    refine ⟨_, pss_cons (ps_expr (pe_call G1 hr rfl g1 F1.kp b1 .nil pass0 (pa_cons (pe_meth0 (pv 0) TC.txt.cl mw Gw hr bw .nil pass0) (pa_cons (pv 1) pa_nil))))
      (pss_cons (ps_set (i := 4) sc_run.nd rfl (.inl rfl) (pe_lst (pa_cons (pv 1) pa_nil)))
      (pss_cons (ps_for (passes_of rfl) rfl (pi_range2W (by rfl) B.rng (pa_cons (pe_op op_add (pv 3) pe_int) (pa_cons (pe_op op_add (pe_op op_add (pv 3) (pv 2)) pe_int) pa_nil))) (pg_name (i := 5) sc_run.nd rfl (Or.inl rfl))
        (pss_one (ps_expr (pe_bm PySem.F.plainAttrs_list PySem.F.slot_list_append PySem.F.type_list_append mt_append (pv 4)
          (pa_cons (pe_call G2 hr rfl g2 F2.kp b2 .nil pass0 (pa_cons (pv 0) (pa_cons (pe_ix ix_list (pv 4) (pe_un un_neg pe_int) (fun _ _ => rfl)) (pa_cons (pv 5) pa_nil)))) pa_nil)))))
      (pss_one (ps_ret (pv 4))))), ?_⟩
    obtain ⟨dx, wa0, tp, tl, e, z⟩ := id ic
    refine ⟨.ref c, rfl, c, dx, _, rfl, e, courseF_no _ _ _ (by decide +kernel), c, k, rfl, ic, fun wa iw => ?_⟩
    refine ⟨.ref t, rfl, wa, t, k.work, R, rfl, iw, ok.wk.bs, ht, ro, fun H1 s1 => ?_⟩
    refine ⟨.ref t, rfl, (by show 1 ≤ sizeLine; decide), fun l nl => ?_⟩
    have n0 : H l = none := none_back s1 nl
    refine ⟨.int b, rfl, b, 1, rfl, rfl, .int b, rfl, .int n, rfl, b, n, rfl, rfl, _, 1, rfl, rfl, b + 1, b + n + 1, rfl, ?_⟩
    rw [show (b + n + 1 - (b + 1)).toNat = n by omega]
    refine for_it (walk_range (lo := b + 1) (n := n)) (fun i σ H2 => ∃ v5 m, σ = [some (.ref c), some (.ref t), some (.int n), some (.int b), some (.ref l), v5] ∧ Same H H2 ∧ H2 l = some (.lst m) ∧ Each RRows H2 m (runL k R b i))
      ⟨none, [.ref t], rfl, s1.trans (same_new nl), upd_same, ?_⟩ (fun _ _ _ _ _ => trivial) ?_ ?_
    · refine (Each.nil (R := RRows)).snoc ⟨t, rfl, ?_⟩
      exact same_new nl _ _ (s1 _ _ ht)
    · rintro i x σ H2 H3 hi ⟨v5, m, rfl, sm, hl, em⟩ ⟨rfl, rfl⟩
      have last := runL_last k R b i
      have rok := runL_ok ok ro b i _ (List.mem_of_getLast? last)
      have ml := em.1
      rw [runL_len] at ml
      have ei : (runL k R b i)[i]? = some ((runL k R b i).getLastD R) := by
        have := last
        rw [List.getLast?_eq_getElem?, runL_len] at this
        exact this
      obtain ⟨v, ev, tv, rfl, htv⟩ := em.of ei
      have mlast : m.getLast? = some (.ref tv) := by
        rw [List.getLast?_eq_getElem?, ml]
        exact ev
      refine ⟨.ref l, rfl, .inl ⟨rfl, _, SqL.of hl⟩, .ref c, rfl, .ref l, rfl, 1, rfl, l, m, _, _, rfl, rfl, SqL.of hl, at_last mlast, .int (b + 1 + (i : Int)), rfl, c, tv, k, _, b + 1 + (i : Int), rfl, ic.same sm, ok, htv, rok, fun u H4 s4 hu => ?_⟩
      have hl4 := s4 _ _ hl
      refine ⟨l, m, .ref u, rfl, rfl, hl4, small1000 (by omega), ?_⟩
      have kn := Kn.put (ys := m ++ [.ref u]) hl4
      refine ⟨_, _, rfl, same_put (sm.trans s4) n0, upd_same, ?_⟩
      have ul : u ≠ l := ne_of hu hl4 (by intro z; cases z)
      have e5 : b + 1 + (i : Int) = b + (i : Int) + 1 := by omega
      rw [e5] at hu
      exact (em.imp (RRows.kn ((Kn.of s4).trans kn))).snoc ⟨u, rfl, by rw [upd_ne ul]; exact hu⟩
    · rintro σ H2 ⟨v5, m, rfl, sm, hl, em⟩
      exact ⟨.ref l, rfl, q l m H2 sm n0 hl em⟩
end
end K23
set_option Elab.async false
set_option linter.all false
set_option maxRecDepth 100000
set_option maxHeartbeats 2000000
/-! What stays while digits are drawn. -/
namespace K23
open PySem PySem.Spec PyProof.Rows L2 Bp
/-- all but dicts of texts stays -/
def Kd (H H' : Hp) : Prop := ∀ b o, (∀ kvs, o ≠ HO.dK kvs) → H b = some o → H' b = some o
theorem Kd.kept {K : PySem.W.Frag} {H H' : Hp} {g : Fed} {n : Nat} (f : FeedAt K H g n) (k : Kept g.f H H') : Kd H H' := fun b o m e => by
  obtain ⟨kvs, ek⟩ := f.dict
  refine k b o (fun z => ?_) e
  rw [z, ek] at e
  exact m _ (Option.some.inj e).symm
theorem Kd.kt {H H' : Hp} (k : Kd H H') : Kt H H' := fun b o _ m e => k b o m e
theorem IsBand.kt {C : Addr} {H H' : Hp} {p : Addr} {b : BandL} (h : IsBand C H p b) (k : Kt H H') : IsBand C H' p b := by
  obtain ⟨dx, e⟩ := h
  exact ⟨dx, k _ _ (by intro xs z; cases z) (by intro xs z; cases z) e⟩
theorem IsPress.kt {C : Addr} {H H' : Hp} {p : Addr} {r : PressL} (h : IsPress C H p r) (k : Kt H H') : IsPress C H' p r := by
  obtain ⟨dx, a, b, t, e, z⟩ := h
  exact ⟨dx, a, b, t, k _ _ (by intro xs z; cases z) (by intro xs z; cases z) e, z.kt k⟩
theorem IsWork.kd {CW CB CP p : Addr} {H H' : Hp} {k : WorkL} (h : IsWork CW CB CP H p k) (s : Kd H H') : IsWork CW CB CP H' p k := by
  obtain ⟨dx, tb, tp, lp, dn, e, z⟩ := h
  obtain ⟨ps, e1, h1⟩ := z.bs
  obtain ⟨m, e2, h2⟩ := z.rs
  obtain ⟨l, e3, h3⟩ := z.ls
  refine ⟨dx, tb, tp, lp, dn, s _ _ (by intro xs z; cases z) e, ⟨⟨ps, s _ _ (by intro xs z; cases z) e1, h1.1, fun i q b a1 a2 => (h1.2 i q b a1 a2).kt s.kt⟩, ⟨m, s _ _ (by intro xs z; cases z) e2, h2.imp fun v x hx => ?_⟩, ⟨l, s _ _ (by intro xs z; cases z) e3, h3.imp (RPlace.kt s.kt)⟩, s _ _ (by intro xs z; cases z) z.ns⟩⟩
  obtain ⟨q, eq, hq⟩ := hx
  exact ⟨q, eq, hq.kt s.kt⟩
theorem IsRaw.kd {H H' : Hp} {rd : Addr} {k : WorkL} {g : Addr} (h : IsRaw H rd k) (ne : rd ≠ g) (kp : Kept g H H') (s : Kd H H') : IsRaw H' rd k := by
  obtain ⟨lb, lp, lq, l, m, q, hrd, hlb, eb, hlp, ep, hlq, el⟩ := h
  exact ⟨lb, lp, lq, l, m, q, kp _ _ ne hrd, s _ _ (by intro xs z; cases z) hlb, eb.imp (RBand.kt s.kt), s _ _ (by intro xs z; cases z) hlp, ep.imp (RStamp.kt s.kt), s _ _ (by intro xs z; cases z) hlq, el.imp (RPlace.kt s.kt)⟩
theorem IsRaw.same {H H' : Hp} {rd : Addr} {k : WorkL} (h : IsRaw H rd k) (s : Same H H') : IsRaw H' rd k := by
  obtain ⟨lb, lp, lq, l, m, q, hrd, hlb, eb, hlp, ep, hlq, el⟩ := h
  exact ⟨lb, lp, lq, l, m, q, s _ _ hrd, s _ _ hlb, eb.imp (RBand.kt (Kt.of s)), s _ _ hlp, ep.imp (RStamp.kt (Kt.of s)), s _ _ hlq, el.imp (RPlace.kt (Kt.of s))⟩
/-- a work, what it was made of, and the feed -/
structure Scene (K : PySem.W.Frag) (CW CB CP : Addr) (g : Fed) (p rd : Addr) (k : WorkL) (n : Nat) (H : Hp) : Prop where
  iw : IsWork CW CB CP H p k
  ir : IsRaw H rd k
  ne : rd ≠ g.f
  fe : FeedAt K H g n
section
variable {K : PySem.W.Frag} {CW CB CP : Addr} {g : Fed} {p rd : Addr} {k : WorkL} {n m : Nat} {H H' : Hp}
theorem Scene.same (h : Scene K CW CB CP g p rd k n H) (s : Same H H') : Scene K CW CB CP g p rd k n H' := ⟨h.iw.same s, h.ir.same s, h.ne, h.fe.same s⟩
theorem Scene.draw (h : Scene K CW CB CP g p rd k n H) (kp : Kept g.f H H') (fe : FeedAt K H' g m) : Scene K CW CB CP g p rd k m H' :=
  ⟨h.iw.kd (Kd.kept h.fe kp), h.ir.kd h.ne kp (Kd.kept h.fe kp), h.ne, fe⟩
theorem Scene.le (h : Scene K CW CB CP g p rd k n H) (l : n ≤ m) : Scene K CW CB CP g p rd k m H := ⟨h.iw, h.ir, h.ne, h.fe.le l⟩
theorem get_bands {lb lp lq : Addr} {s : List Nat} (hrd : H rd = some (.dK (rawKvs s lb lp lq))) : DGet H rd (.str "bands") (some (.ref lb)) := raw_bands s lb lp lq ▸ DGet.k (k := Sum.inr "bands") hrd
theorem get_presses {lb lp lq : Addr} {s : List Nat} (hrd : H rd = some (.dK (rawKvs s lb lp lq))) : DGet H rd (.str "presses") (some (.ref lp)) := raw_presses s lb lp lq ▸ DGet.k (k := Sum.inr "presses") hrd
theorem get_places {lb lp lq : Addr} {s : List Nat} (hrd : H rd = some (.dK (rawKvs s lb lp lq))) : DGet H rd (.str "places") (some (.ref lq)) := raw_places s lb lp lq ▸ DGet.k (k := Sum.inr "places") hrd
end
end K23
set_option Elab.async false
set_option linter.all false
set_option maxRecDepth 100000
/-! Comprehensions within comprehensions: the inner one's names. -/
namespace Bp
open PySem PySem.Spec PyProof.Rows L2
theorem lookup_re (env : Env) : ∀ {names : List (Str × NameKind)} {x : Str} {k : NameKind}, names.lookup x = some k →
    (names.map fun (n, k) => if (k == NameKind.free && env.scope.kind == .function && env.kindOf n == some .cell) then (n, NameKind.cell) else (n, k)).lookup x = some k ∨
    (k = .free ∧ (names.map fun (n, k) => if (k == NameKind.free && env.scope.kind == .function && env.kindOf n == some .cell) then (n, NameKind.cell) else (n, k)).lookup x = some .cell)
  | [], x, k, h => by simp at h
  | (n, j) :: r, x, k, h => by
    have ih := @lookup_re env r x k
    show List.lookup x ((if (j == NameKind.free && env.scope.kind == .function && env.kindOf n == some .cell) = true then (n, NameKind.cell) else (n, j)) :: _) = _ ∨ _ ∧ List.lookup x ((if (j == NameKind.free && env.scope.kind == .function && env.kindOf n == some .cell) = true then (n, NameKind.cell) else (n, j)) :: _) = _
    rw [List.lookup_cons] at h
    by_cases e : (x == n) = true
    · rw [e] at h
      obtain rfl : j = k := Option.some.inj h
      by_cases c : (j == NameKind.free && env.scope.kind == .function && env.kindOf n == some .cell) = true
      · refine .inr ⟨?_, ?_⟩
        · simp only [Bool.and_eq_true] at c
          have c1 := c.1.1
          cases j <;> first | rfl | (exfalso; revert c1; decide)
        · rw [if_pos c, List.lookup_cons, e]
      · refine .inl ?_
        rw [if_neg c, List.lookup_cons, e]
    · have e' : (x == n) = false := by simpa using e
      rw [e'] at h
      rcases ih h with z | ⟨z1, z2⟩
      · refine .inl ?_
        split
        · rw [List.lookup_cons, e']
          exact z
        · rw [List.lookup_cons, e']
          exact z
      · refine .inr ⟨z1, ?_⟩
        split
        · rw [List.lookup_cons, e']
          exact z2
        · rw [List.lookup_cons, e']
          exact z2
/-- the block within a block whose names are sc -/
theorem blkOk_in {N : List Str} {sc scope : Scope} {own : List (Str × Nat)} {env : Env} (h : blkC N sc scope own = true) : BlkOk N (relabel sc env) scope own := by
  have b := blkOk_by h
  refine ⟨b.kind, b.uniq, b.ix, fun y hy e => ?_, b.own⟩
  rcases b.free y hy e with z | z
  · rcases lookup_re env z with q | ⟨q, _⟩
    · exact .inl q
    · cases q
  · rcases lookup_re env z with q | ⟨_, q⟩
    · exact .inr q
    · exact .inl q
/-- join, the constants named -/
def rJoinK (K : PySem.W.Frag) : V → List V → Hp → VK → Prop := fun x xs H Q => ∃ a p, ∃ ys : List Str, x = .str a ∧ xs = [.ref p] ∧ (SqL K H p (ys.map V.str) ∨ SqT K H p (ys.map V.str)) ∧ (ys.map (·.length)).sum + ys.length * a.length ≤ 16777216 ∧ Q (.str (Txt.join a ys)) H
theorem pe_joinK {X : Cx} {o e : Expr} {to te : TE} {apos pos : Pos} {K : PySem.W.Frag} (hK : X.K = K) (ho : PE X o to) (he : PE X e te) (hs : starEach [e] X.env = [(false, eval e X.env)] := by rfl) (hbase : attributeBase o "join" X.env (eval o X.env) = eval o X.env := by rfl) (hline : (apos.endLine == pos.line) = true := by rfl) :
    PE X (.Call (.Attribute o "join" apos) [e] [] pos) (tM1 (rJoinK K) to te) := by
  subst hK
  exact pe_join ho he hs hbase hline
end Bp
set_option Elab.async false
set_option linter.all false
set_option maxRecDepth 100000
set_option maxHeartbeats 2000000
/-! The law's own hand: rows. -/
namespace K23
open PySem PySem.Spec PyProof.Rows L2 Bp
section
variable {P : Program} {w : World} {K : PySem.W.Frag} {mg : Str → Option Value} {base : Heap}
abbrev NsRw : List Str := ["_law_feed_here", "_law_raw_here", "_law_band", "_law_k"]
theorem scRw : FnScope NsRw ["_law_feed_here", "_law_raw_here"] (defScope s_law_rows) := ⟨rfl, rfl, rfl, by decide +kernel, rfl, by decide +kernel, by decide +kernel⟩
abbrev sc_rw : Scope := match defBody s_law_rows with
  | [.Return (some (.Call _ [.ListComp _ _ sc _] _ _)) _] => sc
  | _ => defScope s_law_rows
abbrev it_rw : Expr := match defBody s_law_rows with
  | [.Return (some (.Call _ [.ListComp e _ _ _] _ _)) _] => e
  | _ => .Name "" ⟨0, 0, 0, 0⟩
theorem get_signs {H : Hp} {rd lb lp lq : Addr} {s : List Nat} (hrd : H rd = some (.dK (rawKvs s lb lp lq))) : DGet H rd (.str "signs") (some (.str (tx s))) := raw_signs s lb lp lq ▸ DGet.k (k := Sum.inr "signs") hrd
/-- texts for the first bands -/
def RowsTo (k : WorkL) (l : List (List Nat)) : Prop := ∀ (i : Nat) m b, l[i]? = some m → k.bands[i]? = some b → m.length = b.long ∧ ∀ c ∈ m, c ∈ k.signs
theorem RowsTo.snoc {k : WorkL} {l : List (List Nat)} {m : List Nat} {b : BandL} (h : RowsTo k l) (eb : k.bands[l.length]? = some b) (lm : m.length = b.long) (hm : ∀ c ∈ m, c ∈ k.signs) : RowsTo k (l ++ [m]) := fun i x y e1 e2 => by
  rcases Nat.lt_or_ge i l.length with lt | ge
  · rw [List.getElem?_append_left lt] at e1
    exact h i x y e1 e2
  · rw [List.getElem?_append_right ge] at e1
    have i0 : i - l.length = 0 := by
      have := (List.getElem?_eq_some_iff.mp e1).1
      simp at this
      omega
    rw [i0] at e1
    cases e1
    have : i = l.length := by omega
    rw [this, eb] at e2
    cases e2
    exact ⟨lm, hm⟩
def sp_rows (K : PySem.W.Frag) : Sp := fun vs H Q _ => ∃ (g : Fed) (rd : Addr) (k : WorkL) (n : Nat), vs = [.ref g.f, .ref rd] ∧ IsRaw H rd k ∧ k.Ok ∧ rd ≠ g.f ∧ FeedAt K H g n ∧ n ≤ 2 ^ 30 ∧ ∀ R t H', RowsOk k R → H t = none → H' t = some (.tup (txs R)) → FeedAt K H' g (n + 80) → Kept g.f H H' → Q (.ref t) H'
theorem ok_rows {f fP : Addr} {fd fdP : FuncData} {k : Nat} (B : Blt mg) (F : Fun K "_law_rows" "_law_rows" s_law_rows f fd) (FP : Fun K "_law_pick" "_law_pick" s_law_pick fP fdP) (bP : Binds K fdP ["_law_feed_here", "_law_some"] []) (gP : mg "_law_pick" = some (.ref fP)) (GP : Pck P w K mg base k fP fdP) :
    FnOk P w K mg base CX0 (k + 1) f fd ["_law_feed_here", "_law_raw_here"] (sp_rows K) := by
  refine F.ok scRw (fun vs H Q E h => ?_) (fun cdv A outer sh H vs Q E hr h => ?_)
  · obtain ⟨g, rd, k, n, rfl, _⟩ := h
    rfl
  · obtain ⟨g, rd, k, n, rfl, ir, ok, ne, fe, hn, q⟩ := h
    refine ⟨_, pss_one (ps_ret (pe_callTy call_tuple_of (by rfl) B.tuple (by decide +kernel) (pa_cons (pe_lc (own := [("_law_band", 2)]) (g := gName 2) (tt := tYes) rfl scRw.nd (pi_list (pe_dget (hu_of hr) (pv 1) pe_str (fun _ _ => rfl)))
        (blkOk_by (own := [("_law_band", 2)]) (N := NsRw) (sc := defScope s_law_rows) (by decide +kernel))
        (fun _ _ _ _ _ => pg_name (i := 2) scRw.nd rfl (Or.inl rfl)) (fun _ _ _ _ _ => pts_nil)
        (fun _ _ _ _ _ => pe_joinK (K := K) rfl pe_str (pe_lc (own := [("_law_k", 3)]) (g := gName 3) (tt := tYes) rfl scRw.nd (pi_range1 (by rfl) B.rng (pa_cons (pe_ix (show IxR _ (rIxT K) from ix_tup) (pv 2) pe_int (fun _ _ => rfl)) pa_nil))
          (blkOk_in (own := [("_law_k", 3)]) (N := NsRw) (sc := sc_rw) (by decide +kernel))
          (fun _ _ _ _ _ => pg_name (i := 3) scRw.nd rfl (Or.inl rfl)) (fun _ _ _ _ _ => pts_nil)
          (fun _ _ _ _ _ => pe_call GP hr rfl gP FP.kp bP .nil pass0 (pa_cons (pv 0) (pa_cons (pe_dget (hu_of hr) (pv 1) pe_str (fun _ _ => rfl)) pa_nil)))))) pa_nil))), ?_⟩
    obtain ⟨lb, lp, lq, l, m, qs, hrd, hlb, eb, hlp, ep, hlq, el⟩ := id ir
    have hraw : H rd = some (.dK (rawKvs k.signs lb lp lq)) := hrd
    obtain ⟨fkv, hfd⟩ := fe.dict
    have lbf : lb ≠ g.f := ne_of hlb hfd (by intro z; cases z)
    have b6 := ok.bs.hi
    have sg := ok.sg
    have sg4 := sg.hi
    have sg2 := sg.lo
    refine ⟨.ref rd, rfl, rd, _, rfl, get_bands hraw, lb, rfl, ⟨_, SqL.of hlb⟩, fun D nD => ?_⟩
    have Df := fe.ne nD
    refine lc_feed (walk_list (K := K) (a := lb) (xs := l)) g n 12 (fun m => .str (tx m)) (fun L => RowsTo k L) (fun i m b e => by simp at e) (by rw [eb.1]; omega) fe nD (fun H2 kp _ => SqL.of (kp _ _ lbf hlb)) ?_ ?_ mono_name
    · rintro i x H2 H3 L Qy hi li rt kp fe2 ⟨rfl, hx⟩ qy
      have kt := Kt.kept fe kp
      obtain ⟨b, ebi, tb, rfl, htb⟩ := (eb.imp (RBand.kt kt)).at_ hx
      have bok := ok.bs.each b (List.mem_of_getElem? ebi)
      have b12 := bok.hi
      rw [eb.1] at hi
      refine ⟨rfl, ⟨_, rfl⟩, .ref tb, rfl, tb, _, 1, _, rfl, rfl, SqT.of htb, atI_nat (j := 1) rfl, (b.long : Int), rfl, by omega, by omega, fun D2 nD2 => ?_⟩
      rw [Int.toNat_natCast]
      refine lc_feed (walk_range (lo := 0) (n := b.long)) g (n + 12 * i) 1 (fun c => .str (tx [c])) (fun cs => ∀ c ∈ cs, c ∈ k.signs) (fun c h => by cases h) (by omega) fe2 nD2 (fun _ _ _ => trivial) ?_ ?_ mono_name
      · rintro j y H4 H5 cs Qy2 hj lj rt2 kp2 fe4 ⟨rfl, rfl⟩ qy2
        have hraw4 := (kp.trans kp2) _ _ ne hraw
        refine ⟨rfl, .ref g.f, rfl, .ref rd, rfl, rd, _, rfl, get_signs hraw4, g, .str (tx k.signs), _, rfl, fe4, by omega, .inl ⟨k.signs, rfl, by omega, by omega, fun c H6 hc fe6 kp6 => ?_⟩⟩
        refine qy2 c H6 (fun d hd => ?_) kp6 (fe6.le (by omega))
        rcases List.mem_append.mp hd with hd | hd
        · exact rt2 d hd
        · rw [List.mem_singleton.mp hd]
          exact hc
      · rintro H6 cs lc rt2 kp2 fe6 hD2
        have e6 : cs.map (fun c => V.str (tx [c])) = (ones cs).map V.str := by
          unfold ones
          rw [List.map_map]
          rfl
        rw [e6] at hD2
        refine ⟨tx [], D2, ones cs, tx_nil ▸ rfl, rfl, .inl (SqL.of hD2), ?_, ?_⟩
        · rw [ones_sum, ones_len, tx_len]
          simp
          omega
        · rw [ones_join]
          exact qy cs H6 (rt.snoc (by rw [li]; exact ebi) lc rt2) kp2 (fe6.le (by omega))
    · rintro H7 L lL rt kp fe7 hD
      have LL : L.length = k.bands.length := by rw [lL, eb.1]
      refine ⟨D, _, rfl, .inl ⟨SqL.of hD, fun T nT => ?_⟩⟩
      have TH : H T = none := by
        cases hz : H T with
        | none => rfl
        | some o =>
          by_cases c : T = g.f
          · obtain ⟨kv7, h7⟩ := fe7.dict
            rw [← c, nT] at h7
            cases h7
          · rw [kp _ _ c hz] at nT
            cases nT
      exact q L T _ ⟨LL, rt⟩ TH upd_same ((fe7.le (by rw [eb.1]; omega)).same (same_new nT)) (kp.trans (Kept.of (same_new nT)))
end
end K23
set_option Elab.async false
set_option linter.all false
set_option maxRecDepth 100000
set_option maxHeartbeats 2000000
/-! The law's own hand: whether a press is lifted, which presses work. -/
namespace K23
open PySem PySem.Spec PyProof.Rows L2 Bp
def lwStep (i : Nat) (b : Int) (s : Int × Bool) (u : LiftL) : Int × Bool := if u.press = i ∧ s.1 ≤ u.beat ∧ (u.beat : Int) ≤ b then (u.beat, u.up) else s
def lwFold (ls : List LiftL) (i : Nat) (b : Int) : Int × Bool := ls.foldl (lwStep i b) (-1, false)
theorem lw_up (i : Nat) (b : Int) : ∀ (ls : List LiftL) (s : Int × Bool) (t : Nat × Bool), s.2 = t.2 → (s.1 = t.1 ∨ (s.1 = -1 ∧ t.1 = 0)) → (ls.foldl (lwStep i b) s).2 = (ls.foldl (upStep i (b + 1)) t).2
  | [], s, t, h, _ => h
  | u :: ls, s, t, h, h2 => by
    show (ls.foldl (lwStep i b) (lwStep i b s u)).2 = (ls.foldl (upStep i (b + 1)) (upStep i (b + 1) t u)).2
    have same : (u.press = i ∧ s.1 ≤ u.beat ∧ (u.beat : Int) ≤ b) ↔ (u.press = i ∧ t.1 ≤ u.beat ∧ (u.beat : Int) < b + 1) := by
      constructor
      · rintro ⟨a, c, d⟩
        exact ⟨a, by omega, by omega⟩
      · rintro ⟨a, c, d⟩
        exact ⟨a, by omega, by omega⟩
    unfold lwStep upStep
    by_cases c : u.press = i ∧ s.1 ≤ u.beat ∧ (u.beat : Int) ≤ b
    · rw [if_pos c, if_pos (same.mp c)]
      exact lw_up i b ls _ _ rfl (.inl rfl)
    · rw [if_neg c, if_neg (fun z => c (same.mpr z))]
      exact lw_up i b ls s t h h2
theorem lw_fold (ls : List LiftL) (i : Nat) (b : Int) : (lwFold ls i b).2 = (upFold ls i (b + 1)).2 := lw_up i b ls _ _ rfl (.inr ⟨rfl, rfl⟩)
section
variable {P : Program} {w : World} {K : PySem.W.Frag} {mg : Str → Option Value} {base : Heap}
abbrev NsLf : List Str := ["_law_raising", "_law_number", "_law_beat_here", "_law_found", "_law_word", "_law_when", "_law_which", "_law_way"]
theorem scLf : FnScope NsLf ["_law_raising", "_law_number", "_law_beat_here"] (defScope s_law_lifted) := ⟨rfl, rfl, rfl, by decide +kernel, rfl, by decide +kernel, by decide +kernel⟩
def sp_lifted : Sp := fun vs H Q _ => ∃ (ll : Addr) (n : List V) (ls : List LiftL) (i : Nat) (b : Int), vs = [.ref ll, .int i, .int b] ∧ H ll = some (.lst n) ∧ Each RLift H n ls ∧ ∀ H', Same H H' → Q (.bl (upFold ls i (b + 1)).2) H'
theorem ok_lifted {f : Addr} {fd : FuncData} {k : Nat} (F : Fun K "_law_lifted" "_law_lifted" s_law_lifted f fd) : FnOk P w K mg base CX0 (k + 1) f fd ["_law_raising", "_law_number", "_law_beat_here"] sp_lifted := by
  refine F.ok scLf (fun vs H Q E h => ?_) (fun cdv A outer sh H vs Q E hr h => ?_)
  · obtain ⟨ll, n, ls, i, b, rfl, _⟩ := h
    rfl
  · obtain ⟨ll, n, ls, i, b, rfl, hll, el, q⟩ := h
    refine ⟨_, pss_cons (ps_asg (pe_tup (pa_cons (pe_un un_neg pe_int) (pa_cons pe_str pa_nil))) (pg_tup rfl (pgs_cons (pg_name (i := 3) scLf.nd rfl (.inl rfl)) (pgs_cons (pg_name (i := 4) scLf.nd rfl (.inl rfl)) pgs_nil))))
      (pss_cons (ps_for PassesOwn.never rfl (pi_list (pv 0)) (pg_tup rfl (pgs_cons (pg_name (i := 5) scLf.nd rfl (Or.inl rfl)) (pgs_cons (pg_name (i := 6) scLf.nd rfl (Or.inl rfl)) (pgs_cons (pg_name (i := 7) scLf.nd rfl (Or.inl rfl)) pgs_nil))))
        (pss_one (ps_if (PW.pt (pw_and (pt_cmpR op_eq (pv 6) (pv 1) (nomark _)) (pw_and1 (pt_chain op_le op_le (pv 3) (pv 5) (pv 2)))))
          (pss_one (ps_par (i := 3) (j := 4) rfl scLf.nd rfl rfl (by decide) rfl rfl (pa_cons (pv 5) (pa_cons (pv 7) pa_nil)) (by rfl))) pss_nil)))
      (pss_one (ps_ret (pe_cmpR op_eq (pv 4) pe_str (nomark _))))), ?_⟩
    refine ⟨1, rfl, (by show 2 ≤ sizeLine; decide), fun t nt => ?_⟩
    have s0 : Same H (upd H t (.tup [.int (-1), .str "down"])) := same_new nt
    refine ⟨t, _, rfl, SqT.of upd_same, rfl, _, _, rfl, _, _, rfl, rfl, ?_⟩
    have hll1 := s0 _ _ hll
    refine ⟨.ref ll, rfl, ll, rfl, ⟨_, SqL.of hll1⟩, ?_⟩
    refine for_it (walk_list (K := K) (a := ll) (xs := n)) (fun j σ H1 => ∃ v5 v6 v7 : Option V, σ = [some (.ref ll), some (.int i), some (.int b), some (.int (lwFold (ls.take j) i b).1), some (.str (wordOf (lwFold (ls.take j) i b).2)), v5, v6, v7] ∧ Same H H1) ⟨none, none, none, rfl, s0⟩
      (fun j σ H1 _ z => by obtain ⟨_, _, _, _, sm⟩ := z; exact SqL.of (sm _ _ hll)) ?_ ?_
    · rintro j x σ H1 H1' hj ⟨v5, v6, v7, rfl, sm⟩ ⟨rfl, hx⟩
      obtain ⟨u, eu, t, rfl, ht⟩ := (el.imp (RLift.kn (Kn.of sm))).at_ hx
      refine ⟨t, _, rfl, SqT.of ht, rfl, _, _, rfl, _, _, rfl, _, _, rfl, rfl, ?_⟩
      have nx : lwFold (ls.take (j + 1)) i b = lwStep i b (lwFold (ls.take j) i b) u := by
        rw [List.take_add_one, eu]
        unfold lwFold
        show ((ls.take j) ++ [u]).foldl _ _ = _
        rw [List.foldl_append]
        rfl
      generalize lwFold (ls.take j) i b = st at nx
      obtain ⟨la, lw⟩ := st
      unfold lwStep at nx
      refine ⟨.int u.press, rfl, .int i, rfl, rfl, _, rfl, ?_⟩
      by_cases c1 : u.press = i
      · refine yesOf (decide_eq_true (by rw [c1])) ?_
        refine ⟨.int la, rfl, .int u.beat, rfl, la, (u.beat : Int), rfl, rfl, _, rfl, ?_⟩
        by_cases c2 : la ≤ u.beat
        · refine yesOf (decide_eq_true c2) ?_
          refine ⟨.int b, rfl, (u.beat : Int), b, rfl, rfl, _, rfl, ?_⟩
          by_cases c3 : (u.beat : Int) ≤ b
          · refine yesOf (decide_eq_true c3) ?_
            rw [if_pos ⟨c1, c2, c3⟩] at nx
            exact ⟨_, rfl, _, rfl, _, _, rfl, _, _, _, by rw [nx]; rfl, sm⟩
          · refine noOf (decide_eq_false c3) ?_
            rw [if_neg (fun h => c3 h.2.2)] at nx
            exact ⟨_, _, _, by rw [nx]; rfl, sm⟩
        · refine noOf (decide_eq_false c2) ⟨_, rfl, noOf rfl ?_⟩
          rw [if_neg (fun h => c2 h.2.1)] at nx
          exact ⟨_, _, _, by rw [nx]; rfl, sm⟩
      · refine noOf (decide_eq_false (by intro h; exact c1 (Int.ofNat.inj (V.int.inj h)))) ?_
        rw [if_neg (fun h => c1 h.1)] at nx
        exact ⟨_, _, _, by rw [nx]; rfl, sm⟩
    · rintro σ H1 ⟨v5, v6, v7, rfl, sm⟩
      rw [el.1, List.take_length]
      refine ⟨_, rfl, rfl, ?_⟩
      rw [word_up, lw_fold]
      exact q H1 sm
end
end K23
set_option Elab.async false
set_option linter.all false
set_option maxRecDepth 100000
set_option maxHeartbeats 2000000
/-! Mathematics: a flat list of signs, and lines by names. -/
namespace K23
open PySem PySem.Spec PyProof.Rows L2 Bp
theorem idx_inj {l : List PlaceL} {a b : PlaceL} (ha : a ∈ l) (e : l.idxOf a = l.idxOf b) : a = b := by
  have h1 := List.idxOf_lt_length_of_mem ha
  have h2 : l.idxOf b < l.length := by rw [← e]; exact h1
  have e1 : l[l.idxOf a] = a := List.getElem_idxOf h1
  have e2 : l[l.idxOf b] = b := List.getElem_idxOf h2
  rw [← e1, ← e2]
  congr 1
theorem rangeP_idx (b : BandL) (i n : Nat) (h : i < n) : (rangeP b n).idxOf ⟨b.name, i⟩ = i := by
  have nd : (rangeP b n).Nodup := by
    unfold rangeP
    refine List.pairwise_map.mpr ((List.nodup_range (n := n)).imp fun {i j} ne z => ne ?_)
    exact congrArg PlaceL.at_ z
  have e : (rangeP b n)[i]? = some ⟨b.name, i⟩ := by
    unfold rangeP
    rw [List.getElem?_map, List.getElem?_range h]
    rfl
  obtain ⟨h1, h2⟩ := List.getElem?_eq_some_iff.mp e
  rw [← h2]
  exact nd.idxOf_getElem i h1
theorem place_split : ∀ {bs : List BandL} {s : PlaceL}, (bs.map (·.name)).Nodup → s ∈ placesL bs →
    ∃ j b, bs[j]? = some b ∧ b.name = s.name ∧ s.at_ < b.long ∧ (placesL bs).idxOf s = longs (bs.take j) + s.at_
  | [], s, _, h => by cases h
  | b :: bs, s, nd, h => by
    obtain ⟨n1, n2⟩ := List.nodup_cons.mp (show (b.name :: bs.map (·.name)).Nodup from nd)
    have e : placesL (b :: bs) = rangeP b b.long ++ placesL bs := rfl
    rw [e] at h ⊢
    rcases List.mem_append.mp h with h | h
    · obtain ⟨i, hi, rfl⟩ := List.mem_map.mp h
      have il := List.mem_range.mp hi
      refine ⟨0, b, rfl, rfl, il, ?_⟩
      rw [List.idxOf_append, if_pos h, rangeP_idx b i b.long il]
      show i = longs [] + i
      unfold longs
      simp
    · obtain ⟨j, c, ec, en, lt, ix⟩ := place_split n2 h
      have no : s ∉ rangeP b b.long := fun z => by
        obtain ⟨i, hi, rfl⟩ := List.mem_map.mp z
        exact n1 (List.mem_map.mpr ⟨c, List.mem_of_getElem? ec, en⟩)
      refine ⟨j + 1, c, ec, en, lt, ?_⟩
      rw [List.idxOf_append, if_neg no, ix, rangeP_len, List.take_succ_cons]
      unfold longs
      rw [List.map_cons, List.sum_cons]
      omega
theorem cut_at {bs : List BandL} {f : List Nat} {j : Nat} {b : BandL} {x : Nat} (eb : bs[j]? = some b) (hx : x < b.long) :
    ∃ m, (cutL bs f)[j]? = some m ∧ m[x]? = f[longs (bs.take j) + x]? := by
  refine ⟨_, cutL_get bs f j b eb, ?_⟩
  rw [List.getElem?_take_of_lt hx, List.getElem?_drop]
theorem cut_set : ∀ {bs : List BandL} {f : List Nat} {j : Nat} {b : BandL} {x c : Nat} {m : List Nat}, bs[j]? = some b → x < b.long → (cutL bs f)[j]? = some m →
    cutL bs (f.set (longs (bs.take j) + x) c) = (cutL bs f).set j (m.set x c)
  | [], _, j, b, _, _, _, h, _, _ => by simp at h
  | y :: bs, f, 0, b, x, c, m, h, hx, hm => by
    obtain rfl : y = b := by simpa using h
    obtain rfl : f.take y.long = m := Option.some.inj hm
    show (f.set (longs [] + x) c).take y.long :: cutL bs ((f.set (longs [] + x) c).drop y.long) = (f.take y.long).set x c :: cutL bs (f.drop y.long)
    have e0 : longs [] + x = x := by
      unfold longs
      simp
    rw [e0, List.take_set, List.drop_set_of_lt hx]
  | y :: bs, f, j + 1, b, x, c, m, h, hx, hm => by
    have h2 : bs[j]? = some b := by simpa using h
    have hm2 : (cutL bs (f.drop y.long))[j]? = some m := hm
    have ih := cut_set (c := c) h2 hx hm2
    have e1 : longs ((y :: bs).take (j + 1)) = y.long + longs (bs.take j) := by
      unfold longs
      rw [List.take_succ_cons, List.map_cons, List.sum_cons]
    rw [e1]
    show (f.set (y.long + longs (bs.take j) + x) c).take y.long :: cutL bs ((f.set (y.long + longs (bs.take j) + x) c).drop y.long) = f.take y.long :: (cutL bs (f.drop y.long)).set j (m.set x c)
    have e2 : (f.set (y.long + longs (bs.take j) + x) c).drop y.long = (f.drop y.long).set (longs (bs.take j) + x) c := by
      rw [List.drop_set, if_neg (by omega), show y.long + longs (bs.take j) + x - y.long = longs (bs.take j) + x by omega]
    have e3 : (f.set (y.long + longs (bs.take j) + x) c).take y.long = f.take y.long := by
      rw [List.take_set]
      exact List.set_eq_of_length_le (by rw [List.length_take]; omega)
    rw [e2, e3, ih]
theorem cut_flat : ∀ {bs : List BandL} {R : List (List Nat)}, R.length = bs.length → (∀ (i : Nat) m b, R[i]? = some m → bs[i]? = some b → m.length = b.long) → cutL bs R.flatten = R
  | [], [], _, _ => rfl
  | [], _ :: _, h, _ => by simp at h
  | _ :: _, [], h, _ => by simp at h
  | b :: bs, m :: R, h, each => by
    have l0 := each 0 m b rfl rfl
    show (m ++ R.flatten).take b.long :: cutL bs ((m ++ R.flatten).drop b.long) = m :: R
    rw [← l0, List.take_left, List.drop_left]
    rw [cut_flat (by simpa using h) fun i m' b' e1 e2 => each (i + 1) m' b' (by simpa using e1) (by simpa using e2)]
theorem rot_get {m : List Nat} {p : Int} {x : Nat} (h : x < m.length) : (rotL m p)[x]? = m[(((x : Int) - p) % (m.length : Int)).toNat]? := by
  have n0 : 0 < m.length := by omega
  have m0 : 0 ≤ (-p) % (m.length : Int) := Int.emod_nonneg _ (by omega)
  have m1 : (-p) % (m.length : Int) < (m.length : Int) := Int.emod_lt_of_pos _ (by omega)
  unfold rotL
  obtain ⟨c, hc⟩ : ∃ c : Nat, (-p) % (m.length : Int) = (c : Int) := ⟨_, (Int.toNat_of_nonneg m0).symm⟩
  rw [hc, Int.toNat_natCast]
  have e : ((x : Int) - p) % (m.length : Int) = ((x : Int) + (c : Int)) % (m.length : Int) := by
    rw [← hc, Int.add_emod_emod, Int.sub_eq_add_neg]
  rw [e]
  by_cases lt : x + c < m.length
  · have e2 : ((x : Int) + (c : Int)) % (m.length : Int) = ((x + c : Nat) : Int) := by
      rw [← Int.natCast_add, ← Int.natCast_emod, Nat.mod_eq_of_lt lt]
    rw [e2, Int.toNat_natCast, List.getElem?_append_left (by rw [List.length_drop]; omega), List.getElem?_drop, Nat.add_comm]
  · have e2 : ((x : Int) + (c : Int)) % (m.length : Int) = ((x + c - m.length : Nat) : Int) := by
      rw [← Int.natCast_add, ← Int.natCast_emod, Nat.mod_eq_sub_mod (by omega), Nat.mod_eq_of_lt (by omega)]
    rw [e2, Int.toNat_natCast, List.getElem?_append_right (by rw [List.length_drop]; omega), List.length_drop, List.getElem?_take_of_lt (by omega), show x - (m.length - c) = x + c - m.length by omega]
/-! ### what is laid, put by put -/
def putStep (k : WorkL) (b : Int) (f : List Nat) (u : PutL) : List Nat := if (u.beat : Int) = b then f.set (k.places.idxOf u.place) u.sign else f
theorem puts_get (k : WorkL) (b : Int) (nd : k.places.Nodup) (s : PlaceL) (hs : s ∈ k.places) : ∀ (us : List PutL) (f : List Nat) (o : Option Nat), (∀ u ∈ us, u.place ∈ k.places) → k.places.length ≤ f.length →
    (us.foldl (putStep k b) (match o with | some c => f.set (k.places.idxOf s) c | none => f))[k.places.idxOf s]? = (match us.foldl (lastStep b s) o with | some c => some c | none => f[k.places.idxOf s]?)
  | [], f, o, _, hf => by
    have := List.idxOf_lt_length_of_mem hs
    cases o with
    | none => rfl
    | some c =>
      show (f.set _ c)[_]? = some c
      rw [List.getElem?_set_self (by omega)]
  | u :: us, f, o, hu, hf => by
    have up := hu u (List.mem_cons_self ..)
    have il := List.idxOf_lt_length_of_mem hs
    show (us.foldl (putStep k b) (putStep k b _ u))[_]? = _
    show _ = (match us.foldl (lastStep b s) (lastStep b s o u) with | some c => some c | none => f[k.places.idxOf s]?)
    unfold putStep lastStep
    by_cases c : (u.beat : Int) = b
    · by_cases e : u.place = s
      · rw [if_pos c, if_pos ⟨c, e⟩, e]
        have ih := puts_get k b nd s hs us f (some u.sign) (fun x hx => hu x (List.mem_cons_of_mem _ hx)) hf
        cases o with
        | none => exact ih
        | some d =>
          show (us.foldl (putStep k b) ((f.set (k.places.idxOf s) d).set (k.places.idxOf s) u.sign))[_]? = _
          rw [List.set_set]
          exact ih
      · rw [if_pos c, if_neg (fun z => e z.2)]
        have ne : k.places.idxOf u.place ≠ k.places.idxOf s := fun z => e (idx_inj up z)
        have ih := puts_get k b nd s hs us (f.set (k.places.idxOf u.place) u.sign) o (fun x hx => hu x (List.mem_cons_of_mem _ hx)) (by rw [List.length_set]; exact hf)
        rw [List.getElem?_set_ne ne] at ih
        cases o with
        | none => exact ih
        | some d =>
          show (us.foldl (putStep k b) ((f.set (k.places.idxOf s) d).set (k.places.idxOf u.place) u.sign))[_]? = _
          rw [List.set_comm _ _ (fun z => ne z.symm)]
          exact ih
    · rw [if_neg c, if_neg (fun z => c z.1)]
      exact puts_get k b nd s hs us f o (fun x hx => hu x (List.mem_cons_of_mem _ hx)) hf
theorem lay_get (k : WorkL) (us : List PutL) (b : Int) (s : PlaceL) (hs : s ∈ k.places) : ∀ (pl : List PlaceL) (f : List Nat), pl.Nodup → (∀ x ∈ pl, x ∈ k.places) → k.places.length ≤ f.length →
    ((laidL pl us b).foldl (layL k) f)[k.places.idxOf s]? = if s ∈ pl then (match lastL us b s with | some c => some c | none => f[k.places.idxOf s]?) else f[k.places.idxOf s]?
  | [], f, _, _, _ => by
    rw [if_neg (by simp)]
    rfl
  | x :: pl, f, nd, hp, hf => by
    obtain ⟨n1, n2⟩ := List.nodup_cons.mp nd
    have il := List.idxOf_lt_length_of_mem hs
    have hx := hp x (List.mem_cons_self ..)
    have hp2 := fun y hy => hp y (List.mem_cons_of_mem _ hy)
    unfold laidL
    rw [List.filterMap_cons]
    cases hL : lastL us b x with
    | none =>
      show ((laidL pl us b).foldl (layL k) f)[k.places.idxOf s]? = _
      rw [lay_get k us b s hs pl f n2 hp2 hf]
      by_cases e : s = x
      · subst e
        rw [if_neg n1, if_pos (List.mem_cons_self ..), hL]
      · by_cases m : s ∈ pl
        · rw [if_pos m, if_pos (List.mem_cons_of_mem _ m)]
        · rw [if_neg m, if_neg (fun z => (List.mem_cons.mp z).elim e m)]
    | some c =>
      show ((laidL pl us b).foldl (layL k) (f.set (k.places.idxOf x) c))[k.places.idxOf s]? = _
      rw [lay_get k us b s hs pl _ n2 hp2 (by rw [List.length_set]; exact hf)]
      by_cases e : s = x
      · subst e
        rw [if_neg n1, if_pos (List.mem_cons_self ..), hL, List.getElem?_set_self (by omega)]
      · have ne : k.places.idxOf x ≠ k.places.idxOf s := fun z => e (idx_inj hx z).symm
        rw [List.getElem?_set_ne ne]
        by_cases m : s ∈ pl
        · rw [if_pos m, if_pos (List.mem_cons_of_mem _ m)]
        · rw [if_neg m, if_neg (fun z => (List.mem_cons.mp z).elim e m)]
theorem puts_len (k : WorkL) (b : Int) : ∀ (us : List PutL) (f : List Nat), (us.foldl (putStep k b) f).length = f.length
  | [], _ => rfl
  | u :: us, f => by
    show (us.foldl (putStep k b) (putStep k b f u)).length = _
    rw [puts_len k b us]
    unfold putStep
    split
    · exact List.length_set
    · rfl
theorem lays_len (k : WorkL) : ∀ (us : List (PlaceL × Nat)) (f : List Nat), (us.foldl (layL k) f).length = f.length
  | [], _ => rfl
  | u :: us, f => by
    show (us.foldl (layL k) (layL k f u)).length = _
    rw [lays_len k us]
    exact List.length_set
/-- laid place by place, or put by put -/
theorem lays_eq {k : WorkL} (nd : k.places.Nodup) (us : List PutL) (b : Int) (hu : ∀ u ∈ us, u.place ∈ k.places) {f : List Nat} (hf : f.length = k.places.length) : (laidL k.places us b).foldl (layL k) f = us.foldl (putStep k b) f := by
  refine List.ext_getElem? fun i => ?_
  rcases Nat.lt_or_ge i k.places.length with lt | ge
  · have ix : k.places.idxOf k.places[i] = i := nd.idxOf_getElem i lt
    have hs : k.places[i] ∈ k.places := List.getElem_mem lt
    have a := lay_get k us b k.places[i] hs k.places f nd (fun _ h => h) (by omega)
    have c := puts_get k b nd k.places[i] hs us f none hu (by omega)
    rw [ix] at a c
    rw [a, if_pos hs]
    exact c.symm
  · rw [List.getElem?_eq_none (by rw [lays_len]; omega), List.getElem?_eq_none (by rw [puts_len]; omega)]
/-- over all presses, or over those that work -/
theorem presses_eq (k : WorkL) (ls : List LiftL) (b : Int) : ∀ (ns : List Nat) (f : List Nat), (ns.filter fun i => worksL k.presses ls i b).foldl (pressL k) f = ns.foldl (fun f i => if worksL k.presses ls i b = true then pressL k f i else f) f
  | [], _ => rfl
  | n :: ns, f => by
    rw [List.filter_cons]
    cases c : worksL k.presses ls n b with
    | true =>
      show (List.filter _ ns).foldl (pressL k) (pressL k f n) = List.foldl _ (if worksL k.presses ls n b = true then pressL k f n else f) ns
      rw [presses_eq k ls b ns, if_pos c]
    | false =>
      show (List.filter _ ns).foldl (pressL k) f = List.foldl _ (if worksL k.presses ls n b = true then pressL k f n else f) ns
      rw [presses_eq k ls b ns, if_neg (by rw [c]; exact Bool.false_ne_true)]
end K23
set_option Elab.async false
set_option linter.all false
set_option maxRecDepth 100000
set_option maxHeartbeats 4000000
/-! The law's own hand: a beat. -/
namespace K23
open PySem PySem.Spec PyProof.Rows L2 Bp
def linesK (bs : List BandL) (as : List Addr) : List (Key × V) := (bs.zip as).map fun x => ((Sum.inr (tx x.1.name) : Key), V.ref x.2)
theorem lines_none {bs : List BandL} {as : List Addr} {m : List Nat} (h : m ∉ bs.map (·.name)) : valV (linesK bs as) (.inr (tx m)) = none := by
  unfold valV
  rw [List.find?_eq_none.mpr]
  · rfl
  · intro x hx
    obtain ⟨y, hy, rfl⟩ := List.mem_map.mp hx
    intro z
    have e := tx_inj (Sum.inr.inj (of_decide_eq_true z))
    exact h (List.mem_map.mpr ⟨y.1, (List.of_mem_zip hy).1, e⟩)
theorem lines_get : ∀ {bs : List BandL} {as : List Addr} {j : Nat} {b : BandL} {a : Addr}, (bs.map (·.name)).Nodup → bs[j]? = some b → as[j]? = some a → valV (linesK bs as) (.inr (tx b.name)) = some (.ref a)
  | [], _, j, b, a, _, h, _ => by simp at h
  | _ :: _, [], j, b, a, _, _, h => by simp at h
  | x :: bs, y :: as, 0, b, a, _, h1, h2 => by
    obtain rfl : x = b := by simpa using h1
    obtain rfl : y = a := by simpa using h2
    exact valV_pos rfl
  | x :: bs, y :: as, j + 1, b, a, nd, h1, h2 => by
    obtain ⟨n1, n2⟩ := List.nodup_cons.mp (show (x.name :: bs.map (·.name)).Nodup from nd)
    have e1 : bs[j]? = some b := by simpa using h1
    show valV (((Sum.inr (tx x.name) : Key), V.ref y) :: linesK bs as) _ = _
    rw [valV_neg]
    · exact lines_get n2 e1 (by simpa using h2)
    · intro z
      exact n1 (List.mem_map.mpr ⟨b, List.mem_of_getElem? e1, (tx_inj (Sum.inr.inj z)).symm⟩)
theorem lines_snoc {bs : List BandL} {as : List Addr} (h : as.length = bs.length) (b : BandL) (a : Addr) : linesK (bs ++ [b]) (as ++ [a]) = linesK bs as ++ [((Sum.inr (tx b.name) : Key), V.ref a)] := by
  unfold linesK
  rw [List.zip_append h.symm, List.map_append]
  rfl
/-- lines by names, as far as they stand -/
structure LinesAt (H0 H : Hp) (dl lo : Addr) (ord : List V) (bs : List BandL) (as : List Addr) (R : List (List Nat)) : Prop where
  old : Same H0 H
  dict : H dl = some (.dK (linesK bs as))
  order : H lo = some (.lst ord)
  la : as.length = bs.length
  lr : R.length = bs.length
  nd : as.Nodup
  new : ∀ a ∈ as, H0 a = none ∧ a ≠ lo
  dnew : H0 dl = none
  rows : ∀ (j : Nat) a m, as[j]? = some a → R[j]? = some m → H a = some (.lst ((ones m).map V.str))
theorem LinesAt.same {H0 H H' : Hp} {dl lo : Addr} {ord : List V} {bs : List BandL} {as : List Addr} {R : List (List Nat)} (h : LinesAt H0 H dl lo ord bs as R) (s : Same H H') : LinesAt H0 H' dl lo ord bs as R :=
  ⟨h.old.trans s, s _ _ h.dict, s _ _ h.order, h.la, h.lr, h.nd, h.new, h.dnew, fun j a m e1 e2 => s _ _ (h.rows j a m e1 e2)⟩
theorem LinesAt.put {H0 H : Hp} {dl lo : Addr} {ord : List V} {bs : List BandL} {as : List Addr} {R : List (List Nat)} (h : LinesAt H0 H dl lo ord bs as R) {j : Nat} {a : Addr} {m m' : List Nat} (ea : as[j]? = some a) (em : R[j]? = some m) :
    LinesAt H0 (upd H a (.lst ((ones m').map V.str))) dl lo ord bs as (R.set j m') := by
  have ha := h.rows j a m ea em
  obtain ⟨n1, n2⟩ := h.new a (List.mem_of_getElem? ea)
  have da : dl ≠ a := ne_of h.dict ha (by intro z; cases z)
  refine ⟨same_put h.old n1, by rw [upd_ne da]; exact h.dict, by rw [upd_ne (fun z => n2 z.symm)]; exact h.order, h.la, by rw [List.length_set]; exact h.lr, h.nd, h.new, h.dnew, fun i c x e1 e2 => ?_⟩
  by_cases ij : i = j
  · subst ij
    rw [ea] at e1
    cases e1
    rw [List.getElem?_set_self (List.getElem?_eq_some_iff.mp em).1] at e2
    cases e2
    exact upd_same
  · rw [List.getElem?_set_ne (fun z => ij z.symm)] at e2
    have ca : c ≠ a := fun z => by
      subst z
      obtain ⟨l1, g1⟩ := List.getElem?_eq_some_iff.mp e1
      obtain ⟨l2, g2⟩ := List.getElem?_eq_some_iff.mp ea
      rcases Nat.lt_or_gt_of_ne ij with lt | gt
      · exact List.pairwise_iff_getElem.mp h.nd i j l1 l2 lt (g1.trans g2.symm)
      · exact List.pairwise_iff_getElem.mp h.nd j i l2 l1 gt (g2.trans g1.symm)
    rw [upd_ne ca]
    exact h.rows i c x e1 e2
/-- the line of a place, and the lines with another sign there -/
theorem LinesAt.look {H0 H : Hp} {dl lo : Addr} {ord : List V} {k : WorkL} {as : List Addr} {f : List Nat} (nd : (k.bands.map (·.name)).Nodup) (h : LinesAt H0 H dl lo ord k.bands as (cutL k.bands f)) (fo : FlatOk k f) {s : PlaceL} (hs : s ∈ k.places) :
    ∃ a l, DGet H dl (.str (tx s.name)) (some (.ref a)) ∧ H a = some (.lst l) ∧ l[s.at_]? = some (.str (tx [signAt k f s])) ∧ s.at_ < l.length ∧
      ∀ c, LinesAt H0 (upd H a (.lst (l.set s.at_ (.str (tx [c]))))) dl lo ord k.bands as (cutL k.bands (f.set (k.places.idxOf s) c)) := by
  obtain ⟨j, b, eb, en, lt, ix⟩ := place_split nd hs
  obtain ⟨m, em, mx⟩ := cut_at (f := f) eb lt
  have jl : j < as.length := by
    rw [h.la]
    exact (List.getElem?_eq_some_iff.mp eb).1
  have ea : as[j]? = some as[j] := List.getElem?_eq_getElem jl
  have sa := (fo.at_ hs).1
  have ix2 : k.places.idxOf s = longs (k.bands.take j) + s.at_ := ix
  rw [ix2] at sa
  rw [sa] at mx
  obtain ⟨xl, _⟩ := List.getElem?_eq_some_iff.mp mx
  refine ⟨as[j], (ones m).map V.str, ?_, h.rows j _ m ea em, ?_, ?_, fun c => ?_⟩
  · have g := lines_get nd eb ea
    rw [en] at g
    exact g ▸ DGet.k (k := Sum.inr (tx s.name)) h.dict
  · unfold ones
    rw [List.map_map, List.getElem?_map, mx]
    rfl
  · rw [List.length_map, ones_len]
    exact xl
  · rw [ones_put, ix2, cut_set eb lt em]
    exact h.put ea em
theorem FlatOk.ifs {k : WorkL} (ok : k.Ok) (c : Nat → Bool) : ∀ (ns : List Nat) {f : List Nat}, FlatOk k f → FlatOk k (ns.foldl (fun f i => if c i = true then pressL k f i else f) f)
  | [], _, h => h
  | n :: ns, f, h => by
    refine FlatOk.ifs ok c ns (f := if c n = true then pressL k f n else f) ?_
    split
    · exact h.press ok n
    · exact h
theorem FlatOk.puts {k : WorkL} (b : Int) : ∀ (us : List PutL) {f : List Nat}, (∀ u ∈ us, u.Ok k) → FlatOk k f → FlatOk k (us.foldl (putStep k b) f)
  | [], _, _, h => h
  | u :: us, f, hu, h => by
    refine FlatOk.puts b us (f := putStep k b f u) (fun x hx => hu x (List.mem_cons_of_mem _ hx)) ?_
    unfold putStep
    split
    · exact h.put _ (hu u (List.mem_cons_self ..)).sg
    · exact h
/-- puts and lifts stand at te -/
def IsEv (H : Hp) (te : Addr) (ps : List PutL) (ls : List LiftL) : Prop := ∃ la ll m n, H te = some (.tup [.ref la, .ref ll]) ∧ H la = some (.lst m) ∧ Each RPut H m ps ∧ H ll = some (.lst n) ∧ Each RLift H n ls
theorem IsEv.same {H H' : Hp} {te : Addr} {ps : List PutL} {ls : List LiftL} (h : IsEv H te ps ls) (s : Same H H') : IsEv H' te ps ls := by
  obtain ⟨la, ll, m, n, e, e1, h1, e2, h2⟩ := h
  exact ⟨la, ll, m, n, s _ _ e, s _ _ e1, h1.imp (RPut.kn (Kn.of s)), s _ _ e2, h2.imp (RLift.kn (Kn.of s))⟩
section
variable {P : Program} {w : World} {K : PySem.W.Frag} {mg : Str → Option Value} {base : Heap}
abbrev NsBt : List Str := ["_law_raw_here", "_law_events_here", "_law_rows_here", "_law_beat_here", "_law_signs_here", "_law_lines", "_law_order", "_law_k", "_law_name", "_law_wide", "_law_goes", "_law_number", "_law_up", "_law_low", "_law_rule", "_law_bar", "_law_row", "_law_when", "_law_place", "_law_sign", "_law_band", "_law_x"]
theorem scBt : FnScope NsBt ["_law_raw_here", "_law_events_here", "_law_rows_here", "_law_beat_here"] (defScope s_law_beat) := ⟨rfl, rfl, rfl, by decide +kernel, rfl, by decide +kernel, by decide +kernel⟩
def sp_beat (K : PySem.W.Frag) : Sp := fun vs H Q _ => ∃ (rd te t : Addr) (c : CourseL) (R : List (List Nat)) (b : Nat), vs = [.ref rd, .ref te, .ref t, .int b] ∧ IsRaw H rd c.work ∧ c.Ok ∧ IsEv H te c.puts c.lifts ∧ H t = some (.tup (txs R)) ∧ RowsOk c.work R ∧
  ∀ u H', Same H H' → H' u = some (.tup (txs (beatL c R ((b : Int) + 1)))) → Q (.ref u) H'
theorem ok_beat {f fL : Addr} {fd fdL : FuncData} {k : Nat} (B : Blt mg) (F : Fun K "_law_beat" "_law_beat" s_law_beat f fd) (FL : Fun K "_law_lifted" "_law_lifted" s_law_lifted fL fdL) (bL : Binds K fdL ["_law_raising", "_law_number", "_law_beat_here"] []) (gL : mg "_law_lifted" = some (.ref fL))
    (GL : FnOk P w K mg base CX0 k fL fdL ["_law_raising", "_law_number", "_law_beat_here"] sp_lifted) : FnOk P w K mg base CX0 (k + 1) f fd ["_law_raw_here", "_law_events_here", "_law_rows_here", "_law_beat_here"] (sp_beat K) := by
  refine F.ok scBt (fun vs H Q E h => ?_) (fun cdv A outer sh H vs Q E hr h => ?_)
  · obtain ⟨rd, te, t, c, R, b, rfl, _⟩ := h
    rfl
  · obtain ⟨rd, te, t, c, R, b, rfl, ir, ok, ie, ht, ro, q⟩ := h
    have hu := hu_of hr
    refine ⟨_, pss_cons (ps_asg (pe_tup (pa_cons (pe_dget hu (pv 0) pe_str (fun _ _ => rfl)) (pa_cons pe_dnewK (pa_cons (pe_lc (own := [("_law_band", 20)]) (g := gName 20) (tt := tYes) rfl scBt.nd (pi_list (pe_dget hu (pv 0) pe_str (fun _ _ => rfl)))
          (blkOk_by (own := [("_law_band", 20)]) (N := NsBt) (sc := defScope s_law_beat) (by decide +kernel)) (fun _ _ _ _ _ => pg_name (i := 20) scBt.nd rfl (Or.inl rfl)) (fun _ _ _ _ _ => pts_nil)
          (fun _ _ _ _ _ => pe_ix (show IxR _ (rIxT K) from ix_tup) (pv 20) pe_int (fun _ _ => rfl))) pa_nil))))
        (pg_tup rfl (pgs_cons (pg_name (i := 4) scBt.nd rfl (.inl rfl)) (pgs_cons (pg_name (i := 5) scBt.nd rfl (.inr rfl)) (pgs_cons (pg_name (i := 6) scBt.nd rfl (.inl rfl)) pgs_nil)))))
      (pss_cons (ps_for PassesOwn.never rfl (pi_range1 (by rfl) B.rng (pa_cons (pe_callB call_len (by rfl) B.len PySem.boot_len (pa_cons (pv 6) pa_nil)) pa_nil)) (pg_name (i := 7) scBt.nd rfl (Or.inr rfl))
        (pss_cons (ps_asg (pe_ix ix_list (pe_dget hu (pv 0) pe_str (fun _ _ => rfl)) (pv 7) (fun _ _ => rfl)) (pg_tup rfl (pgs_cons (pg_name (i := 8) scBt.nd rfl (.inl rfl)) (pgs_cons (pg_name (i := 9) scBt.nd rfl (.inr rfl)) (pgs_cons (pg_name (i := 10) scBt.nd rfl (.inr rfl)) pgs_nil)))))
        (pss_one (ps_dput hu (pv 5) (pv 8) (pe_lc (own := [("_law_x", 21)]) (g := gName 21) (tt := tYes) rfl scBt.nd (pi_range1 (by rfl) B.rng (pa_cons (pv 9) pa_nil))
          (blkOk_by (own := [("_law_x", 21)]) (N := NsBt) (sc := defScope s_law_beat) (by decide +kernel)) (fun _ _ _ _ _ => pg_name (i := 21) scBt.nd rfl (Or.inl rfl)) (fun _ _ _ _ _ => pts_nil)
          (fun _ _ _ _ _ => pe_ix ix_str (pe_ix (show IxR _ (rIxT K) from ix_tup) (pv 2) (pv 7) (fun _ _ => rfl)) (pe_op op_mod (pe_op op_sub (pv 21) (pv 10)) (pv 9)) (fun _ _ => rfl))) rfl))))
      (pss_cons (ps_for PassesOwn.never rfl (pi_range1 (by rfl) B.rng (pa_cons (pe_callB call_len (by rfl) B.len PySem.boot_len (pa_cons (pe_dget hu (pv 0) pe_str (fun _ _ => rfl)) pa_nil)) pa_nil)) (pg_name (i := 11) scBt.nd rfl (Or.inl rfl))
        (pss_cons (ps_asg (pe_ix ix_list (pe_dget hu (pv 0) pe_str (fun _ _ => rfl)) (pv 11) (fun _ _ => rfl)) (pg_tup rfl (pgs_cons (pg_name (i := 12) scBt.nd rfl (.inl rfl)) (pgs_cons (pg_name (i := 13) scBt.nd rfl (.inl rfl)) (pgs_cons (pg_name (i := 14) scBt.nd rfl (.inl rfl)) (pgs_cons (pg_name (i := 15) scBt.nd rfl (.inl rfl)) pgs_nil))))))
        (pss_one (ps_if (PW.pt (pw_and (pt_cmpR op_eq (pe_ix ix_str (pv 15) (pe_op op_mod (pv 3) (pe_callB call_len (by rfl) B.len PySem.boot_len (pa_cons (pv 15) pa_nil))) (fun _ _ => rfl)) pe_str (nomark _))
            (pw_and1 (pt_not (pt_val (pe_call GL hr rfl gL FL.kp bL .nil pass0 (pa_cons (pe_ix ix_tup (pv 1) pe_int (fun _ _ => rfl)) (pa_cons (pv 11) (pa_cons (pv 3) pa_nil)))))))))
          (pss_cons (ps_set (i := 16) scBt.nd rfl (.inl rfl) (pe_ix ix_tup (pv 14) (pe_m1 PySem.F.slot_str_index PySem.F.type_str_index mt_sindex (pv 4) (pe_ix ix_list (pe_dget hu (pv 5) (pe_ix ix_tup (pv 12) pe_int (fun _ _ => rfl)) (fun _ _ => rfl)) (pe_ix ix_tup (pv 12) pe_int (fun _ _ => rfl)) (fun _ _ => rfl))) (fun _ _ => rfl)))
          (pss_one (ps_asg (pe_ix ix_str (pv 16) (pe_m1 PySem.F.slot_str_index PySem.F.type_str_index mt_sindex (pv 4) (pe_ix ix_list (pe_dget hu (pv 5) (pe_ix ix_tup (pv 13) pe_int (fun _ _ => rfl)) (fun _ _ => rfl)) (pe_ix ix_tup (pv 13) pe_int (fun _ _ => rfl)) (fun _ _ => rfl))) (fun _ _ => rfl))
            (pg_sub (pe_dget hu (pv 5) (pe_ix ix_tup (pv 13) pe_int (fun _ _ => rfl)) (fun _ _ => rfl)) (pe_ix ix_tup (pv 13) pe_int (fun _ _ => rfl)) set_list)))) pss_nil))))
      (pss_cons (ps_for PassesOwn.never rfl (pi_list (pe_ix ix_tup (pv 1) pe_int (fun _ _ => rfl))) (pg_tup rfl (pgs_cons (pg_name (i := 17) scBt.nd rfl (Or.inl rfl)) (pgs_cons (pg_name (i := 18) scBt.nd rfl (Or.inl rfl)) (pgs_cons (pg_name (i := 19) scBt.nd rfl (Or.inl rfl)) pgs_nil))))
        (pss_one (ps_if (pt_cmpR op_eq (pv 17) (pe_op op_add (pv 3) pe_int) (nomark _))
          (pss_one (ps_asg (pv 19) (pg_sub (pe_dget hu (pv 5) (pe_ix ix_tup (pv 18) pe_int (fun _ _ => rfl)) (fun _ _ => rfl)) (pe_ix ix_tup (pv 18) pe_int (fun _ _ => rfl)) set_list))) pss_nil)))
      (pss_one (ps_ret (pe_callTy call_tuple_of (by rfl) B.tuple (by decide +kernel) (pa_cons (pe_lc (own := [("_law_name", 8)]) (g := gName 8) (tt := tYes) rfl scBt.nd (pi_list (pv 6))
          (blkOk_by (own := [("_law_name", 8)]) (N := NsBt) (sc := defScope s_law_beat) (by decide +kernel)) (fun _ _ _ _ _ => pg_name (i := 8) scBt.nd rfl (Or.inl rfl)) (fun _ _ _ _ _ => pts_nil)
          (fun _ _ _ _ _ => pe_joinK (K := K) rfl pe_str (pe_dget hu (pv 5) (pv 8) (fun _ _ => rfl)))) pa_nil))))))), ?_⟩
    obtain ⟨lb, lp, lq, l, m, qs, hrd, hlb, eb, hlp, ep, hlq, el⟩ := id ir
    obtain ⟨la, ll, mp, ml, hte, hla, eu, hll, ev⟩ := id ie
    have hraw : H rd = some (.dK (rawKvs c.work.signs lb lp lq)) := hrd
    have bok := ok.wk.bs
    have nd := bok.nd
    have b6 := bok.hi
    have sg4 := ok.wk.sg.hi
    have p8 := ok.wk.few
    have nth0 : ∀ {α : Type} {xs : List α} {i : Nat} {x : α}, xs[i]? = some x → atI xs (0 + (i : Int)) = some x := fun {α xs i x} e => by
      rw [Int.zero_add]
      exact atI_nat e
    refine ⟨.ref rd, rfl, rd, _, rfl, get_signs hraw, fun dl ndl => ?_⟩
    have s1 : Same H (upd H dl (.dK [])) := same_new ndl
    refine ⟨.ref rd, rfl, rd, _, rfl, get_bands (s1 _ _ hraw), lb, rfl, ⟨_, SqL.of (s1 _ _ hlb)⟩, fun lo nlo => ?_⟩
    refine lc_v (H := upd H dl (.dK [])) (walk_list (K := K) (a := lb) (xs := l)) (fun H1 sm => SqL.of (sm _ _ (s1 _ _ hlb))) (fun i _ r => r = (c.work.bands.take i).map fun b => V.str (tx b.name)) (fun _ => rfl) (fun i _ r _ e => ?_) (fun _ _ _ _ _ e => e) nlo ?_ ?_
    · rw [e, List.length_map, List.length_take]
      omega
    · rintro i x H1 H2 r Qy Qn hi sm er ⟨rfl, hx⟩ qy _
      obtain ⟨bb, ebi, tb, rfl, htb⟩ := (eb.imp (RBand.kt (Kt.of (s1.trans sm)))).at_ hx
      refine ⟨rfl, yes_kept ⟨.ref tb, rfl, tb, _, 0, _, rfl, rfl, SqT.of htb, atI_nat (j := 0) rfl, qy _ _ (Same.refl _) ?_⟩⟩
      rw [er, List.take_add_one, ebi, List.map_append]
      rfl
    intro H1 ord s2 eo hlo
    rw [eb.1, List.take_length] at eo
    have ol : ord.length = c.work.bands.length := by rw [eo, List.length_map]
    have hdl1 := s2 _ _ (upd_same (H := H) (a := dl) (o := .dK []))
    refine ⟨(by show 3 ≤ sizeLine; decide), fun T nT => ?_⟩
    have sT := same_new (o := .tup [.str (tx c.work.signs), .ref dl, .ref lo]) nT
    refine ⟨T, _, rfl, SqT.of upd_same, rfl, _, _, rfl, _, _, rfl, _, _, rfl, rfl, ?_⟩
    have hlo3 := sT _ _ hlo
    have L0 : LinesAt H (upd H1 T (.tup [.str (tx c.work.signs), .ref dl, .ref lo])) dl lo ord (c.work.bands.take 0) [] ((movedL c.work.bands R).take 0) :=
      ⟨(s1.trans s2).trans sT, sT _ _ hdl1, hlo3, rfl, rfl, List.nodup_nil, (fun a h => by cases h), ndl, fun j a m e _ => by simp at e⟩
    generalize upd H1 T (.tup [.str (tx c.work.signs), .ref dl, .ref lo]) = H3 at L0 hlo3
    refine ⟨.ref lo, rfl, .ref lo, c.work.bands.length, rfl, .inl ⟨_, SqL.of hlo3, ol.symm⟩, (c.work.bands.length : Int), rfl, by omega, by omega, ?_⟩
    rw [Int.toNat_natCast]
    -- the lines
    refine for_it (walk_range (lo := 0) (n := c.work.bands.length)) (fun i σ H' => ∃ v7 v8 v9 v10 as, σ = [some (.ref rd), some (.ref te), some (.ref t), some (.int b), some (.str (tx c.work.signs)), some (.ref dl), some (.ref lo), v7, v8, v9, v10, none, none, none, none, none, none, none, none, none, none, none] ∧
      LinesAt H H' dl lo ord (c.work.bands.take i) as ((movedL c.work.bands R).take i)) ⟨none, none, none, none, [], rfl, L0⟩ (fun _ _ _ _ _ => trivial) ?_ ?_
    · rintro i x σ H' H4 hi ⟨v7, v8, v9, v10, as, rfl, L⟩ ⟨rfl, rfl⟩
      have ebi : c.work.bands[i]? = some c.work.bands[i] := List.getElem?_eq_getElem hi
      generalize c.work.bands[i] = bb at ebi
      obtain ⟨v, evi, tb, rfl, htb⟩ := (eb.imp (RBand.kt (Kt.of L.old))).of ebi
      obtain ⟨m1, em⟩ : ∃ m, R[i]? = some m := ⟨R[i]'(by rw [ro.len]; exact hi), List.getElem?_eq_getElem _⟩
      have okb := bok.each bb (List.mem_of_getElem? ebi)
      have lm := (ro.each i m1 bb em ebi).1
      have lo1 := okb.lo
      have hi12 := okb.hi
      refine ⟨.ref rd, rfl, rd, _, rfl, get_bands (L.old _ _ hraw), .int (0 + (i : Int)), rfl, lb, l, _, _, rfl, rfl, SqL.of (L.old _ _ hlb), nth0 evi, tb, _, rfl, SqT.of htb, rfl, _, _, rfl, _, _, rfl, _, _, rfl, rfl, ?_⟩
      refine ⟨.int bb.long, rfl, (bb.long : Int), rfl, by omega, by omega, fun D nD => ?_⟩
      rw [Int.toNat_natCast]
      have rl : (rotL m1 bb.pace).length = bb.long := by rw [rotL_len, lm]
      refine lc_v (H := H4) (walk_range (lo := 0) (n := bb.long)) (fun _ _ => trivial) (fun j _ r => r = (ones ((rotL m1 bb.pace).take j)).map V.str) (fun _ => rfl) (fun j _ r _ e => ?_) (fun _ _ _ _ _ e => e) nD ?_ ?_
      · rw [e, List.length_map, ones_len, List.length_take]
        omega
      · rintro j y H5 H6 r Qy Qn hj sm er ⟨rfl, rfl⟩ qy _
        have ej : (rotL m1 bb.pace)[j]? = some ((rotL m1 bb.pace)[j]'(by rw [rl]; exact hj)) := List.getElem?_eq_getElem _
        have rg := rot_get (m := m1) (p := bb.pace) (x := j) (by rw [lm]; exact hj)
        rw [ej, lm] at rg
        generalize (rotL m1 bb.pace)[j]'(by rw [rl]; exact hj) = ch at ej rg
        have m0 : 0 ≤ (0 + (j : Int) - bb.pace) % (bb.long : Int) := Int.emod_nonneg _ (by omega)
        obtain ⟨jj, hjj⟩ : ∃ jj : Nat, (0 + (j : Int) - bb.pace) % (bb.long : Int) = (jj : Int) := ⟨_, (Int.toNat_of_nonneg m0).symm⟩
        have hjj2 : ((j : Int) - bb.pace) % (bb.long : Int) = (jj : Int) := by
          rw [← hjj, Int.zero_add]
        rw [hjj2, Int.toNat_natCast] at rg
        refine ⟨rfl, yes_kept ⟨.ref t, rfl, .int (0 + (i : Int)), rfl, t, _, _, _, rfl, rfl, SqT.of (sm _ _ (L.old _ _ ht)), nth0 (txs_get em), .int (0 + (j : Int)), rfl, .int bb.pace, rfl, _, _, rfl, rfl, .int bb.long, rfl, _, _, rfl, rfl, (by show (0 : Int) < (bb.long : Int); omega), tx m1, (jj : Int), ch, rfl, congrArg V.int hjj, fit_tx (by omega), ?_, qy _ _ (Same.refl _) ?_⟩⟩
        · rw [tx_list]
          exact atI_nat rg.symm
        · rw [er, List.take_add_one, ej]
          show _ = (ones (_ ++ [ch])).map V.str
          rw [ones_snoc, List.map_append]
          rfl
      intro H5 r s5 er hD
      rw [List.take_of_length_le (Nat.le_of_eq rl)] at er
      have L5 := L.same s5
      have nDH : H D = none := none_back L.old nD
      have Dd : dl ≠ D := ne_of_none L.dict nD
      have nm : bb.name ∉ (c.work.bands.take i).map (·.name) := fun z => by
        obtain ⟨y, hy, e⟩ := List.mem_map.mp z
        obtain ⟨jy, hjy⟩ := List.mem_iff_getElem?.mp hy
        rw [List.getElem?_take] at hjy
        by_cases ct : jy < i
        · rw [if_pos ct] at hjy
          obtain ⟨a1, a2⟩ := List.getElem?_eq_some_iff.mp hjy
          obtain ⟨b1, b2⟩ := List.getElem?_eq_some_iff.mp ebi
          have := List.pairwise_iff_getElem.mp nd jy i (by rw [List.length_map]; exact a1) (by rw [List.length_map]; exact b1) ct
          rw [List.getElem_map, List.getElem_map, a2, b2] at this
          exact this e
        · rw [if_neg ct] at hjy
          cases hjy
      have fewL : (linesK (c.work.bands.take i) as).length < sizeLine := by
        unfold linesK
        rw [List.length_map, List.length_zip, List.length_take]
        exact small1000 (by omega)
      refine ⟨.ref dl, rfl, .str (tx bb.name), rfl, dl, _, rfl, DPut.k (k := Sum.inr (tx bb.name)) L5.dict fewL, ?_⟩
      refine ⟨_, _, _, _, as ++ [D], rfl, ?_⟩
      have asD : ∀ a ∈ as, a ≠ D := fun a ha z => by
        obtain ⟨ja, hja⟩ := List.mem_iff_getElem?.mp ha
        have lt : ja < ((movedL c.work.bands R).take i).length := by
          rw [L.lr, ← L.la]
          exact (List.getElem?_eq_some_iff.mp hja).1
        have := L.rows ja a _ hja (List.getElem?_eq_getElem lt)
        rw [z, nD] at this
        cases this
      have pk : putK (linesK (c.work.bands.take i) as) (Sum.inr (tx bb.name)) (.ref D) = linesK (c.work.bands.take (i + 1)) (as ++ [D]) := by
        rw [putK_new _ (lines_none nm), List.take_add_one, ebi]
        exact (lines_snoc L.la bb D).symm
      have tb1 : c.work.bands.take (i + 1) = c.work.bands.take i ++ [bb] := by
        rw [List.take_add_one, ebi]
        rfl
      have tm1 : (movedL c.work.bands R).take (i + 1) = (movedL c.work.bands R).take i ++ [rotL m1 bb.pace] := by
        rw [List.take_add_one, moved_get ebi em]
        rfl
      have lod : lo ≠ dl := ne_of L5.order L5.dict (by intro z; cases z)
      refine ⟨same_put L5.old ndl, by rw [upd_same, pk], by rw [upd_ne lod]; exact L5.order, by rw [tb1, List.length_append, List.length_append, L.la]; rfl, by rw [tb1, tm1, List.length_append, List.length_append, L.lr]; rfl, ?_, ?_, ndl, ?_⟩
      · refine List.nodup_append.mpr ⟨L.nd, by simp, fun x hx y hy e => ?_⟩
        rw [List.mem_singleton.mp hy] at e
        exact asD x hx e
      · intro a ha
        rcases List.mem_append.mp ha with ha | ha
        · exact L.new a ha
        · rw [List.mem_singleton.mp ha]
          refine ⟨nDH, fun z => ?_⟩
          rw [z, L.order] at nD
          cases nD
      · intro j a mm e1 e2
        rw [tm1] at e2
        have lr := L.lr
        have la_ := L.la
        rcases Nat.lt_or_ge j as.length with lt | ge
        · rw [List.getElem?_append_left lt] at e1
          rw [List.getElem?_append_left (by omega)] at e2
          have := L5.rows j a mm e1 e2
          rw [upd_ne (ne_of this L5.dict (by intro z; cases z))]
          exact this
        · rw [List.getElem?_append_right ge] at e1
          rw [List.getElem?_append_right (by omega)] at e2
          have j0 : j - as.length = 0 := by
            have := (List.getElem?_eq_some_iff.mp e1).1
            simp at this
            omega
          rw [j0] at e1
          rw [show j - ((movedL c.work.bands R).take i).length = 0 by omega] at e2
          cases e1
          cases e2
          rw [upd_ne (fun z => Dd z.symm), hD, er]
    rintro σ H4 ⟨v7, v8, v9, v10, as, rfl, L⟩
    rw [List.take_length, ← moved_len ro.len, List.take_length] at L
    have fo := moved_ok ro
    have cf := cut_flat (bs := c.work.bands) (R := movedL c.work.bands R) (moved_len ro.len) (fun i mm bb e1 e2 => by
      have il : i < R.length := by
        rw [ro.len]
        exact (List.getElem?_eq_some_iff.mp e2).1
      have := moved_get e2 (List.getElem?_eq_getElem il)
      rw [e1] at this
      rw [Option.some.inj this, rotL_len]
      exact (ro.each i _ bb (List.getElem?_eq_getElem il) e2).1)
    have q1 : ∀ u H', Same H H' → H' u = some (.tup (txs (cutL c.work.bands (c.puts.foldl (putStep c.work ((b : Int) + 1)) ((List.range c.work.presses.length).foldl (fun f i => if worksL c.work.presses c.lifts i ((b : Int) + 1) = true then pressL c.work f i else f) (movedL c.work.bands R).flatten))))) → Q (.ref u) H' := by
      have e1 := presses_eq c.work c.lifts ((b : Int) + 1) (List.range c.work.presses.length) (movedL c.work.bands R).flatten
      have fp := FlatOk.presses ok.wk (workingL c.work.presses c.lifts ((b : Int) + 1)) fo
      have e2 := lays_eq (places_nd nd) c.puts ((b : Int) + 1) (fun u hu => (ok.ps u hu).pl) (fp.len.trans (places_longs c.work.bands).symm)
      unfold workingL at e2
      rw [e1] at e2
      intro u H' s' hu
      refine q u H' s' ?_
      unfold beatL workingL
      rw [e1, e2]
      exact hu
    rw [← cf] at L
    generalize (movedL c.work.bands R).flatten = f0 at fo L q1
    refine ⟨.ref rd, rfl, rd, _, rfl, get_presses (L.old _ _ hraw), .ref lp, c.work.presses.length, rfl, .inl ⟨_, SqL.of (L.old _ _ hlp), ep.1.symm⟩, (c.work.presses.length : Int), rfl, by omega, by omega, ?_⟩
    rw [Int.toNat_natCast]
    -- the presses
    refine for_it (walk_range (lo := 0) (n := c.work.presses.length)) (fun i σ H' => ∃ v11 v12 v13 v14 v15 v16, σ = [some (.ref rd), some (.ref te), some (.ref t), some (.int b), some (.str (tx c.work.signs)), some (.ref dl), some (.ref lo), v7, v8, v9, v10, v11, v12, v13, v14, v15, v16, none, none, none, none, none] ∧
      LinesAt H H' dl lo ord c.work.bands as (cutL c.work.bands ((List.range i).foldl (fun f i => if worksL c.work.presses c.lifts i ((b : Int) + 1) = true then pressL c.work f i else f) f0))) ⟨none, none, none, none, none, none, rfl, L⟩ (fun _ _ _ _ _ => trivial) ?_ ?_
    · rintro i x σ H' H5 hi ⟨v11, v12, v13, v14, v15, v16, rfl, L5⟩ ⟨rfl, rfl⟩
      have eri : c.work.presses[i]? = some c.work.presses[i] := List.getElem?_eq_getElem hi
      generalize c.work.presses[i] = r1 at eri
      have fw := ok.wk.fit r1 (List.mem_of_getElem? eri)
      have rh := fw.ok.rh
      have lo1 := rh.lo
      have hi6 := rh.hi
      obtain ⟨v, evi, t1, a1, b1, tb1, rfl, ht1, pa⟩ := (ep.imp (RStamp.kt (Kt.of L5.old))).of eri
      have fo5 := FlatOk.ifs ok.wk (fun i => worksL c.work.presses c.lifts i ((b : Int) + 1)) (List.range i) fo
      have nx : ((List.range (i + 1)).foldl (fun f i => if worksL c.work.presses c.lifts i ((b : Int) + 1) = true then pressL c.work f i else f) f0) = (fun f i => if worksL c.work.presses c.lifts i ((b : Int) + 1) = true then pressL c.work f i else f) ((List.range i).foldl (fun f i => if worksL c.work.presses c.lifts i ((b : Int) + 1) = true then pressL c.work f i else f) f0) i := by
        rw [List.range_succ, List.foldl_append]
        rfl
      generalize (List.range i).foldl (fun f i => if worksL c.work.presses c.lifts i ((b : Int) + 1) = true then pressL c.work f i else f) f0 = f5 at L5 fo5 nx
      have pl : pressL c.work f5 i = f5.set (c.work.places.idxOf r1.below) (printL c.work r1 f5) := by
        unfold pressL
        rw [eri]
      have wk : worksL c.work.presses c.lifts i ((b : Int) + 1) = (downAt r1.rhythm ((b : Int) + 1) && !(upFold c.lifts i ((b : Int) + 1)).2) := by
        unfold worksL
        rw [eri]
      simp only [wk, pl] at nx
      have m0 : 0 ≤ (b : Int) % (r1.rhythm.length : Int) := Int.emod_nonneg _ (by omega)
      have m1 : (b : Int) % (r1.rhythm.length : Int) < (r1.rhythm.length : Int) := Int.emod_lt_of_pos _ (by omega)
      have dA : downAt r1.rhythm ((b : Int) + 1) = decide (r1.rhythm[((b : Int) % (r1.rhythm.length : Int)).toNat]? = some 120) := by
        unfold downAt
        rw [show (b : Int) + 1 - 1 = (b : Int) by omega]
      obtain ⟨j, hj⟩ : ∃ j : Nat, (b : Int) % (r1.rhythm.length : Int) = (j : Int) := ⟨_, (Int.toNat_of_nonneg m0).symm⟩
      rw [hj, Int.toNat_natCast] at dA
      have jl : j < r1.rhythm.length := by omega
      have at_ : r1.rhythm[j]? = some r1.rhythm[j] := List.getElem?_eq_getElem jl
      rw [at_] at dA
      generalize r1.rhythm[j] = ch at dA at_
      refine ⟨.ref rd, rfl, rd, _, rfl, get_presses (L5.old _ _ hraw), .int (0 + (i : Int)), rfl, lp, m, _, _, rfl, rfl, SqL.of (L5.old _ _ hlp), nth0 evi, t1, _, rfl, SqT.of ht1, rfl, _, _, rfl, _, _, rfl, _, _, rfl, _, _, rfl, rfl, ?_⟩
      refine ⟨.str (tx r1.rhythm), rfl, .int b, rfl, .str (tx r1.rhythm), rfl, .str (tx r1.rhythm), r1.rhythm.length, rfl, ⟨fit_tx (by omega), (tx_len _).symm⟩, (b : Int), (r1.rhythm.length : Int), rfl, rfl, (by show (0 : Int) < (r1.rhythm.length : Int); omega), tx r1.rhythm, _, ch, rfl, rfl, fit_tx (by omega), ?_, rfl, _, rfl, ?_⟩
      · rw [tx_list, hj]
        exact atI_nat at_
      by_cases c1 : ch = 120
      · refine yesOf ((x_sign ch).trans (decide_eq_true c1)) ?_
        have dT : downAt r1.rhythm ((b : Int) + 1) = true := by
          rw [dA, c1]
          exact decide_eq_true rfl
        rw [dT, Bool.true_and] at nx
        refine ⟨.ref te, rfl, te, _, 1, _, rfl, rfl, SqT.of (L5.old _ _ hte), atI_nat (j := 1) rfl, .int (0 + (i : Int)), rfl, .int b, rfl, ll, ml, c.lifts, i, (b : Int), congrArg (fun z => [V.ref ll, V.int z, V.int b]) (Int.zero_add _), L5.old _ _ hll, ev.imp (RLift.kn (Kn.of L5.old)), fun H6 s6 => ⟨_, rfl, ?_⟩⟩
        have L6 := L5.same s6
        cases hup : (upFold c.lifts i ((b : Int) + 1)).2 with
        | true =>
          refine noOf rfl ?_
          rw [hup] at nx
          refine ⟨_, _, _, _, _, _, rfl, ?_⟩
          rw [nx]
          exact L6
        | false =>
          refine yesOf rfl ?_
          rw [hup] at nx
          have pab : H6 a1 = some (.tup [.str (tx r1.above.name), .int r1.above.at_]) := s6 _ _ pa.ab
          have pbe : H6 b1 = some (.tup [.str (tx r1.below.name), .int r1.below.at_]) := s6 _ _ pa.be
          have ptb := s6 _ _ pa.tb
          obtain ⟨aa, la_, ga, ha, xa, _, _⟩ := L6.look nd fo5 fw.ab
          obtain ⟨ab, lb_, gb, hb, xb, ltb, Lb⟩ := L6.look nd fo5 fw.be
          have sa := (fo5.at_ fw.ab).2
          have sb := (fo5.at_ fw.be).2
          obtain ⟨mt, em, en, _, m4⟩ := print_at fo5 fw
          refine ⟨.ref tb1, rfl, .str (tx c.work.signs), rfl, ⟨_, rfl⟩, .ref dl, rfl, .ref a1, rfl, a1, _, 0, _, rfl, rfl, SqT.of pab, atI_nat (j := 0) rfl, dl, _, rfl, ga, .ref a1, rfl, a1, _, 1, _, rfl, rfl, SqT.of pab, atI_nat (j := 1) rfl, aa, la_, (r1.above.at_ : Int), _, rfl, rfl, SqL.of ha, atI_nat xa,
            tx c.work.signs, tx [signAt c.work f5 r1.above], c.work.signs.idxOf (signAt c.work f5 r1.above), [], rfl, rfl, occ_first sa, tb1, _, _, _, rfl, rfl, SqT.of ptb, atI_nat (txs_get em), ?_⟩
          refine ⟨.str (tx mt), rfl, .str (tx c.work.signs), rfl, ⟨_, rfl⟩, .ref dl, rfl, .ref b1, rfl, b1, _, 0, _, rfl, rfl, SqT.of pbe, atI_nat (j := 0) rfl, dl, _, rfl, gb, .ref b1, rfl, b1, _, 1, _, rfl, rfl, SqT.of pbe, atI_nat (j := 1) rfl, ab, lb_, (r1.below.at_ : Int), _, rfl, rfl, SqL.of hb, atI_nat xb,
            tx c.work.signs, tx [signAt c.work f5 r1.below], c.work.signs.idxOf (signAt c.work f5 r1.below), [], rfl, rfl, occ_first sb, tx mt, _, printL c.work r1 f5, rfl, rfl, fit_tx (by omega), (by rw [tx_list]; exact atI_nat en), ?_⟩
          refine ⟨.ref dl, rfl, .ref b1, rfl, b1, _, 0, _, rfl, rfl, SqT.of pbe, atI_nat (j := 0) rfl, dl, _, rfl, gb, .ref b1, rfl, b1, _, 1, _, rfl, rfl, SqT.of pbe, atI_nat (j := 1) rfl, ab, lb_, (r1.below.at_ : Int), r1.below.at_, rfl, rfl, hb, ix_in ltb, ?_⟩
          refine ⟨_, _, _, _, _, _, rfl, ?_⟩
          rw [nx]
          exact Lb _
      · refine noOf ((x_sign ch).trans (decide_eq_false c1)) ?_
        have dF : downAt r1.rhythm ((b : Int) + 1) = false := by
          rw [dA]
          exact decide_eq_false (fun z => c1 (Option.some.inj z))
        rw [dF, Bool.false_and] at nx
        refine ⟨_, _, _, _, _, _, rfl, ?_⟩
        rw [nx]
        exact L5
    rintro σ H5 ⟨v11, v12, v13, v14, v15, v16, rfl, L5⟩
    have fo5 := FlatOk.ifs ok.wk (fun i => worksL c.work.presses c.lifts i ((b : Int) + 1)) (List.range c.work.presses.length) fo
    generalize (List.range c.work.presses.length).foldl (fun f i => if worksL c.work.presses c.lifts i ((b : Int) + 1) = true then pressL c.work f i else f) f0 = f5 at L5 fo5 q1
    refine ⟨.ref te, rfl, te, _, 0, _, rfl, rfl, SqT.of (L5.old _ _ hte), atI_nat (j := 0) rfl, la, rfl, ⟨_, SqL.of (L5.old _ _ hla)⟩, ?_⟩
    -- the puts
    refine for_it (walk_list (K := K) (a := la) (xs := mp)) (fun i σ H' => ∃ v17 v18 v19, σ = [some (.ref rd), some (.ref te), some (.ref t), some (.int b), some (.str (tx c.work.signs)), some (.ref dl), some (.ref lo), v7, v8, v9, v10, v11, v12, v13, v14, v15, v16, v17, v18, v19, none, none] ∧
      LinesAt H H' dl lo ord c.work.bands as (cutL c.work.bands ((c.puts.take i).foldl (putStep c.work ((b : Int) + 1)) f5))) ⟨none, none, none, rfl, L5⟩ (fun i σ H' _ z => by obtain ⟨_, _, _, _, z⟩ := z; exact SqL.of (z.old _ _ hla)) ?_ ?_
    · rintro i x σ H' H6 hi ⟨v17, v18, v19, rfl, L6⟩ ⟨rfl, hx⟩
      obtain ⟨u, eui, t1, tp1, rfl, ht1, ip⟩ := (eu.imp (RPut.kn (Kn.of L6.old))).at_ hx
      have uo := ok.ps u (List.mem_of_getElem? eui)
      have fo6 := FlatOk.puts ((b : Int) + 1) (c.puts.take i) (fun x hx => ok.ps x (List.mem_of_mem_take hx)) fo5
      have nx : ((c.puts.take (i + 1)).foldl (putStep c.work ((b : Int) + 1)) f5) = putStep c.work ((b : Int) + 1) ((c.puts.take i).foldl (putStep c.work ((b : Int) + 1)) f5) u := by
        rw [List.take_add_one, eui]
        show List.foldl _ _ (_ ++ [u]) = _
        rw [List.foldl_append]
        rfl
      generalize (c.puts.take i).foldl (putStep c.work ((b : Int) + 1)) f5 = f6 at L6 fo6 nx
      have ps1 : putStep c.work ((b : Int) + 1) f6 u = if (u.beat : Int) = (b : Int) + 1 then f6.set (c.work.places.idxOf u.place) u.sign else f6 := rfl
      rw [ps1] at nx
      refine ⟨t1, _, rfl, SqT.of ht1, rfl, _, _, rfl, _, _, rfl, _, _, rfl, rfl, ?_⟩
      refine ⟨.int u.beat, rfl, .int b, rfl, _, 1, rfl, rfl, rfl, _, rfl, ?_⟩
      by_cases c1 : (u.beat : Int) = (b : Int) + 1
      · refine yesOf (decide_eq_true (by rw [c1])) ?_
        rw [if_pos c1] at nx
        have pp : H6 tp1 = some (.tup [.str (tx u.place.name), .int u.place.at_]) := ip
        obtain ⟨ab, lb_, gb, hb, xb, ltb, Lb⟩ := L6.look nd fo6 uo.pl
        refine ⟨.str (tx [u.sign]), rfl, .ref dl, rfl, .ref tp1, rfl, tp1, _, 0, _, rfl, rfl, SqT.of pp, atI_nat (j := 0) rfl, dl, _, rfl, gb, .ref tp1, rfl, tp1, _, 1, _, rfl, rfl, SqT.of pp, atI_nat (j := 1) rfl, ab, lb_, (u.place.at_ : Int), u.place.at_, rfl, rfl, hb, ix_in ltb, ?_⟩
        refine ⟨_, _, _, rfl, ?_⟩
        rw [nx]
        exact Lb _
      · refine noOf (decide_eq_false (fun z => c1 (V.int.inj z))) ?_
        rw [if_neg c1] at nx
        refine ⟨_, _, _, rfl, ?_⟩
        rw [nx]
        exact L6
    rintro σ H6 ⟨v17, v18, v19, rfl, L6⟩
    rw [eu.1, List.take_length] at L6
    have fo6 := FlatOk.puts ((b : Int) + 1) c.puts ok.ps fo5
    generalize c.puts.foldl (putStep c.work ((b : Int) + 1)) f5 = f6 at L6 q1 fo6
    have fewR : ∀ x ∈ cutL c.work.bands f6, x.length ≤ 12 := fun x hx => by
      have co := cut_ok fo6
      obtain ⟨ix, hix⟩ := List.mem_iff_getElem?.mp hx
      have il : ix < c.work.bands.length := by
        rw [← cutL_len c.work.bands f6]
        exact (List.getElem?_eq_some_iff.mp hix).1
      have eb := List.getElem?_eq_getElem il
      rw [(co.each ix x _ hix eb).1]
      exact (bok.each _ (List.mem_of_getElem? eb)).hi
    refine ⟨.ref lo, rfl, lo, rfl, ⟨_, SqL.of L6.order⟩, fun D nD => ?_⟩
    refine lc_v (H := H6) (walk_list (K := K) (a := lo) (xs := ord)) (fun H7 sm => SqL.of (sm _ _ L6.order)) (fun i _ r => r = txs ((cutL c.work.bands f6).take i)) (fun _ => rfl) (fun i _ r _ e => ?_) (fun _ _ _ _ _ e => e) nD ?_ ?_
    · rw [e, txs_len, List.length_take, cutL_len]
      omega
    · rintro i x H7 H8 r Qy Qn hi sm er ⟨rfl, hx⟩ qy _
      rw [ol] at hi
      have ebi : c.work.bands[i]? = some c.work.bands[i] := List.getElem?_eq_getElem hi
      have L7 := L6.same sm
      have ai : as[i]? = some (as[i]'(by rw [L7.la]; exact hi)) := List.getElem?_eq_getElem _
      have ri : (cutL c.work.bands f6)[i]? = some ((cutL c.work.bands f6)[i]'(by rw [cutL_len]; exact hi)) := List.getElem?_eq_getElem _
      have g := lines_get nd ebi ai
      have row := L7.rows i _ _ ai ri
      have few := fewR _ (List.mem_of_getElem? ri)
      generalize (cutL c.work.bands f6)[i]'(by rw [cutL_len]; exact hi) = mm at ri row few
      generalize as[i]'(by rw [L7.la]; exact hi) = aa at ai g row
      obtain rfl : x = .str (tx (c.work.bands[i]).name) := by
        rw [eo, List.getElem?_map, ebi] at hx
        exact (Option.some.inj hx).symm
      have gd : DGet H8 dl (.str (tx (c.work.bands[i]).name)) (some (.ref aa)) := g ▸ DGet.k (k := Sum.inr (tx (c.work.bands[i]).name)) L7.dict
      refine ⟨rfl, yes_kept ⟨⟨_, rfl⟩, .ref dl, rfl, .str (tx (c.work.bands[i]).name), rfl, dl, _, rfl, gd, tx [], aa, ones mm, tx_nil ▸ rfl, rfl, .inl (SqL.of row), ?_, ?_⟩⟩
      · rw [ones_sum, ones_len, tx_len]
        simp
        omega
      · rw [ones_join]
        refine qy _ _ (Same.refl _) ?_
        rw [er, List.take_add_one, ri]
        exact (txs_snoc _ _).symm
    · intro H7 r s7 er hD
      rw [ol, ← cutL_len c.work.bands f6, List.take_length] at er
      rw [er] at hD
      exact ⟨D, _, rfl, .inl ⟨SqL.of hD, fun T2 nT2 => q1 T2 _ ((L6.old.trans s7).trans (same_new nT2)) upd_same⟩⟩
end
end K23
set_option Elab.async false
set_option linter.all false
set_option maxRecDepth 100000
set_option maxHeartbeats 4000000
/-! The law's own hand: runs, courses, what works, what are rows. -/
namespace K23
open PySem PySem.Spec PyProof.Rows L2 Bp
section
variable {P : Program} {w : World} {K : PySem.W.Frag} {mg : Str → Option Value} {base : Heap} {CC CW CB CP : Addr}
/-! ### runs -/
abbrev NsRn : List Str := ["_law_raw_here", "_law_events_here", "_law_rows_here", "_law_since", "_law_many", "_law_found", "_law_k"]
theorem scRn : FnScope NsRn ["_law_raw_here", "_law_events_here", "_law_rows_here", "_law_since", "_law_many"] (defScope s_law_runs) := ⟨rfl, rfl, rfl, by decide +kernel, rfl, by decide +kernel, by decide +kernel⟩
def sp_runs (K : PySem.W.Frag) : Sp := fun vs H Q _ => ∃ (rd te t : Addr) (c : CourseL) (R : List (List Nat)) (b n : Nat), vs = [.ref rd, .ref te, .ref t, .int b, .int n] ∧ IsRaw H rd c.work ∧ c.Ok ∧ IsEv H te c.puts c.lifts ∧ H t = some (.tup (txs R)) ∧ RowsOk c.work R ∧ n ≤ 1000 ∧
  ∀ l m H', Same H H' → H l = none → H' l = some (.lst m) → Each RRows H' m (runL c R b n) → Q (.ref l) H'
theorem ok_runs {f fB : Addr} {fd fdB : FuncData} {k : Nat} (B : Blt mg) (F : Fun K "_law_runs" "_law_runs" s_law_runs f fd) (FB : Fun K "_law_beat" "_law_beat" s_law_beat fB fdB) (bB : Binds K fdB ["_law_raw_here", "_law_events_here", "_law_rows_here", "_law_beat_here"] []) (gB : mg "_law_beat" = some (.ref fB))
    (GB : FnOk P w K mg base CX0 k fB fdB ["_law_raw_here", "_law_events_here", "_law_rows_here", "_law_beat_here"] (sp_beat K)) : FnOk P w K mg base CX0 (k + 1) f fd ["_law_raw_here", "_law_events_here", "_law_rows_here", "_law_since", "_law_many"] (sp_runs K) := by
  refine F.ok scRn (fun vs H Q E h => ?_) (fun cdv A outer sh H vs Q E hr h => ?_)
  · obtain ⟨rd, te, t, c, R, b, n, rfl, _⟩ := h
    rfl
  · obtain ⟨rd, te, t, c, R, b, n, rfl, ir, ok, ie, ht, ro, few, q⟩ := h
    refine ⟨_, pss_cons (ps_set (i := 5) scRn.nd rfl (.inl rfl) (pe_lst (pa_cons (pv 2) pa_nil)))
      (pss_cons (ps_for PassesOwn.never rfl (pi_range1 (by rfl) B.rng (pa_cons (pv 4) pa_nil)) (pg_name (i := 6) scRn.nd rfl (Or.inl rfl))
        (pss_one (ps_expr (pe_bm PySem.F.plainAttrs_list PySem.F.slot_list_append PySem.F.type_list_append mt_append (pv 5)
          (pa_cons (pe_call GB hr rfl gB FB.kp bB .nil pass0 (pa_cons (pv 0) (pa_cons (pv 1) (pa_cons (pe_ix ix_list (pv 5) (pe_un un_neg pe_int) (fun _ _ => rfl)) (pa_cons (pe_op op_add (pv 3) (pv 6)) pa_nil))))) pa_nil)))))
      (pss_one (ps_ret (pv 5)))), ?_⟩
    refine ⟨.ref t, rfl, (by show 1 ≤ sizeLine; decide), fun l nl => ?_⟩
    refine ⟨.int n, rfl, (n : Int), rfl, by omega, by omega, ?_⟩
    rw [Int.toNat_natCast]
    refine for_it (walk_range (lo := 0) (n := n)) (fun i σ H2 => ∃ v6 m, σ = [some (.ref rd), some (.ref te), some (.ref t), some (.int b), some (.int n), some (.ref l), v6] ∧ Same H H2 ∧ H2 l = some (.lst m) ∧ Each RRows H2 m (runL c R b i))
      ⟨none, [.ref t], rfl, same_new nl, upd_same, ?_⟩ (fun _ _ _ _ _ => trivial) ?_ ?_
    · exact (Each.nil (R := RRows)).snoc ⟨t, rfl, same_new nl _ _ ht⟩
    · rintro i x σ H2 H3 hi ⟨v6, m, rfl, sm, hl, em⟩ ⟨rfl, rfl⟩
      have last := runL_last c R b i
      have rok := runL_ok ok ro b i _ (List.mem_of_getLast? last)
      have ml := em.1
      rw [runL_len] at ml
      have ei : (runL c R b i)[i]? = some ((runL c R b i).getLastD R) := by
        have := last
        rw [List.getLast?_eq_getElem?, runL_len] at this
        exact this
      obtain ⟨v, ev, tv, rfl, htv⟩ := em.of ei
      have mlast : m.getLast? = some (.ref tv) := by
        rw [List.getLast?_eq_getElem?, ml]
        exact ev
      have eb : (b : Int) + (0 + (i : Int)) = ((b + i : Nat) : Int) := by omega
      refine ⟨.ref l, rfl, .inl ⟨rfl, _, SqL.of hl⟩, .ref rd, rfl, .ref te, rfl, .ref l, rfl, 1, rfl, l, m, _, _, rfl, rfl, SqL.of hl, at_last mlast, .int b, rfl, .int (0 + (i : Int)), rfl, _, _, rfl, rfl, rd, te, tv, c, _, b + i, congrArg (fun z => [V.ref rd, V.ref te, V.ref tv, V.int z]) eb, ir.same sm, ok, ie.same sm, htv, rok, fun u H4 s4 hu => ?_⟩
      have hl4 := s4 _ _ hl
      refine ⟨l, m, .ref u, rfl, rfl, hl4, small1000 (by omega), ?_⟩
      have kn := Kn.put (ys := m ++ [.ref u]) hl4
      refine ⟨_, _, rfl, same_put (sm.trans s4) nl, upd_same, ?_⟩
      have ul : u ≠ l := ne_of hu hl4 (by intro z; cases z)
      rw [show (((b + i : Nat) : Int) + 1) = (b : Int) + (i : Int) + 1 by omega] at hu
      exact (em.imp (RRows.kn ((Kn.of s4).trans kn))).snoc ⟨u, rfl, by rw [upd_ne ul]; exact hu⟩
    · rintro σ H2 ⟨v6, m, rfl, sm, hl, em⟩
      exact ⟨.ref l, rfl, q l m H2 sm nl hl em⟩
/-! ### course -/
theorem scCo : FnScope ["_law_raw_here", "_law_events_here"] ["_law_raw_here", "_law_events_here"] (defScope s_law_course) := ⟨rfl, rfl, rfl, by decide +kernel, rfl, by decide +kernel, by decide +kernel⟩
def sp_course (CC CW CB CP : Addr) : Sp := fun vs H Q _ => ∃ (rd te : Addr) (c : CourseL), vs = [.ref rd, .ref te] ∧ IsRaw H rd c.work ∧ c.Ok ∧ IsEv H te c.puts c.lifts ∧ ∀ p H', Same H H' → IsCourse CC CW CB CP H' p c → Q (.ref p) H'
theorem ok_course {f fM fC : Addr} {fd fdM fdC : FuncData} {k : Nat} (B : Blt mg) (F : Fun K "_law_course" "_law_course" s_law_course f fd) (FM : Fun K "_law_made" "_law_made" s_law_made fM fdM) (bM : Binds K fdM ["_law_raw_here"] []) (gM : mg "_law_made" = some (.ref fM)) (GM : FnOk P w K mg base CX0 (k + 1) fM fdM ["_law_raw_here"] (sp_made CW CB CP))
    (TC : CourseTxt K mg CC) (MC : Mk K CC fC) (GC : FnOk P w K mg base CX0 k fC fdC ["self", "work", "puts", "lifts"] (sp_Course_init CC CW CB CP)) (kC : KBn K fdC ["self", "work", "puts", "lifts"] 2 ["puts", "lifts"] (fun us ws => us ++ ws) (fun vs zs => vs ++ zs)) :
    FnOk P w K mg base CX0 (k + 2) f fd ["_law_raw_here", "_law_events_here"] (sp_course CC CW CB CP) := by
  refine F.ok scCo (fun vs H Q E h => ?_) (fun cdv A outer sh H vs Q E hr h => ?_)
  · obtain ⟨rd, te, c, rfl, _⟩ := h
    rfl
  · obtain ⟨rd, te, c, rfl, ir, ok, ie, q⟩ := h
    refine ⟨_, pss_one (ps_ret (pe_makeK MC GC hr (by rfl) TC.gC kC pass0 (pa_cons (pe_call GM hr rfl gM FM.kp bM .nil pass0 (pa_cons (pv 0) pa_nil)) pa_nil)
      (pk_cons (pe_callTy call_list_of (by rfl) B.list (by decide +kernel) (pa_cons (pe_ix ix_tup (pv 1) pe_int (fun _ _ => rfl)) pa_nil)) (pk_cons (pe_callTy call_list_of (by rfl) B.list (by decide +kernel) (pa_cons (pe_ix ix_tup (pv 1) pe_int (fun _ _ => rfl)) pa_nil)) pk_nil)))), ?_⟩
    obtain ⟨la, ll, mp, ml, hte, hla, eu, hll, ev⟩ := id ie
    refine ⟨.ref rd, rfl, rd, c.work, rfl, ir, ok.wk, fun wa H1 s1 iw => ?_⟩
    refine ⟨.ref te, rfl, te, _, 0, _, rfl, rfl, SqT.of (s1 _ _ hte), atI_nat (j := 0) rfl, la, mp, rfl, .inl (SqL.of (s1 _ _ hla)), fun la2 nla2 => ?_⟩
    have s2 := s1.trans (same_new (o := .lst mp) nla2)
    have hla2 : upd H1 la2 (.lst mp) la2 = some (.lst mp) := upd_same
    have iw2 := iw.same (same_new (o := .lst mp) nla2)
    generalize upd H1 la2 (.lst mp) = H2 at s2 hla2 iw2
    refine ⟨.ref te, rfl, te, _, 1, _, rfl, rfl, SqT.of (s2 _ _ hte), atI_nat (j := 1) rfl, ll, ml, rfl, .inl (SqL.of (s2 _ _ hll)), fun ll2 nll2 => ?_⟩
    have s23 := same_new (o := .lst ml) nll2
    have s3 := s2.trans s23
    have hla3 := s23 _ _ hla2
    have hll3 : upd H2 ll2 (.lst ml) ll2 = some (.lst ml) := upd_same
    have iw3 := iw2.same s23
    generalize upd H2 ll2 (.lst ml) = H3 at s3 hla3 hll3 iw3
    refine ⟨rfl, rfl, fun y dy ny ndy ne => ?_⟩
    have ms : Same H3 (upd (upd H3 dy (.own y)) y (.ins CC dy [])) := fun b o e => by
      rw [upd_ne (ne_of_none e ny), upd_ne (ne_of_none e ndy)]
      exact e
    refine ⟨y, dy, wa, la2, ll2, mp, ml, c, rfl, ok, iw3.same ms, ms _ _ hla3, eu.imp (RPut.kn (Kn.of (s3.trans ms))), ms _ _ hll3, ev.imp (RLift.kn (Kn.of (s3.trans ms))), upd_same, fun H5 ic k5 => ⟨rfl, ?_⟩⟩
    exact q y H5 (s3.trans (made_same ny ndy ne k5)) ic
/-! ### what works -/
abbrev NsWg : List Str := ["_law_raw_here", "_law_events_here", "_law_beat_here", "_law_found", "_law_number", "_law_bar"]
theorem scWg : FnScope NsWg ["_law_raw_here", "_law_events_here", "_law_beat_here"] (defScope s_law_working) := ⟨rfl, rfl, rfl, by decide +kernel, rfl, by decide +kernel, by decide +kernel⟩
def sp_working (K : PySem.W.Frag) : Sp := fun vs H Q _ => ∃ (rd te : Addr) (c : CourseL) (b : Int), vs = [.ref rd, .ref te, .int b] ∧ IsRaw H rd c.work ∧ c.work.Ok ∧ IsEv H te c.puts c.lifts ∧ ∀ l H', Same H H' → H l = none → H' l = some (.lst (natsV (workingL c.work.presses c.lifts b))) → Q (.ref l) H'
theorem ok_working {f fL : Addr} {fd fdL : FuncData} {k : Nat} (B : Blt mg) (F : Fun K "_law_working" "_law_working" s_law_working f fd) (FL : Fun K "_law_lifted" "_law_lifted" s_law_lifted fL fdL) (bL : Binds K fdL ["_law_raising", "_law_number", "_law_beat_here"] []) (gL : mg "_law_lifted" = some (.ref fL))
    (GL : FnOk P w K mg base CX0 k fL fdL ["_law_raising", "_law_number", "_law_beat_here"] sp_lifted) : FnOk P w K mg base CX0 (k + 1) f fd ["_law_raw_here", "_law_events_here", "_law_beat_here"] (sp_working K) := by
  refine F.ok scWg (fun vs H Q E h => ?_) (fun cdv A outer sh H vs Q E hr h => ?_)
  · obtain ⟨rd, te, c, b, rfl, _⟩ := h
    rfl
  · obtain ⟨rd, te, c, b, rfl, ir, ok, ie, q⟩ := h
    have hu := hu_of hr
    refine ⟨_, pss_cons (ps_set (i := 3) scWg.nd rfl (.inl rfl) (pe_lst pa_nil))
      (pss_cons (ps_for PassesOwn.never rfl (pi_range1 (by rfl) B.rng (pa_cons (pe_callB call_len (by rfl) B.len PySem.boot_len (pa_cons (pe_dget hu (pv 0) pe_str (fun _ _ => rfl)) pa_nil)) pa_nil)) (pg_name (i := 4) scWg.nd rfl (Or.inl rfl))
        (pss_cons (ps_set (i := 5) scWg.nd rfl (.inl rfl) (pe_ix ix_tup (pe_ix ix_list (pe_dget hu (pv 0) pe_str (fun _ _ => rfl)) (pv 4) (fun _ _ => rfl)) pe_int (fun _ _ => rfl)))
        (pss_one (ps_if (PW.pt (pw_and (pt_cmpR op_eq (pe_ix ix_str (pv 5) (pe_op op_mod (pe_op op_sub (pv 2) pe_int) (pe_callB call_len (by rfl) B.len PySem.boot_len (pa_cons (pv 5) pa_nil))) (fun _ _ => rfl)) pe_str (nomark _))
            (pw_and1 (pt_not (pt_val (pe_call GL hr rfl gL FL.kp bL .nil pass0 (pa_cons (pe_ix ix_tup (pv 1) pe_int (fun _ _ => rfl)) (pa_cons (pv 4) (pa_cons (pe_op op_sub (pv 2) pe_int) pa_nil)))))))))
          (pss_one (ps_expr (pe_bm PySem.F.plainAttrs_list PySem.F.slot_list_append PySem.F.type_list_append mt_append (pv 3) (pa_cons (pv 4) pa_nil)))) pss_nil))))
      (pss_one (ps_ret (pv 3)))), ?_⟩
    obtain ⟨lb, lp, lq, l0, m, qs, hrd, hlb, eb, hlp, ep, hlq, el⟩ := id ir
    obtain ⟨la, ll, mp, ml, hte, hla, eu, hll, ev⟩ := id ie
    have hraw : H rd = some (.dK (rawKvs c.work.signs lb lp lq)) := hrd
    have p8 := ok.few
    have nth0 : ∀ {α : Type} {xs : List α} {i : Nat} {x : α}, xs[i]? = some x → atI xs (0 + (i : Int)) = some x := fun {α xs i x} e => by
      rw [Int.zero_add]
      exact atI_nat e
    refine ⟨(by show 0 ≤ sizeLine; decide), fun l nl => ?_⟩
    have s0 := same_new (o := .lst []) nl
    refine ⟨.ref rd, rfl, rd, _, rfl, get_presses (s0 _ _ hraw), .ref lp, c.work.presses.length, rfl, .inl ⟨_, SqL.of (s0 _ _ hlp), ep.1.symm⟩, (c.work.presses.length : Int), rfl, by omega, by omega, ?_⟩
    rw [Int.toNat_natCast]
    refine for_it (walk_range (lo := 0) (n := c.work.presses.length)) (fun i σ H2 => ∃ v4 v5, σ = [some (.ref rd), some (.ref te), some (.int b), some (.ref l), v4, v5] ∧ Same H H2 ∧ H2 l = some (.lst (natsV ((List.range i).filter fun j => worksL c.work.presses c.lifts j b))))
      ⟨none, none, rfl, s0, upd_same⟩ (fun _ _ _ _ _ => trivial) ?_ ?_
    · rintro i x σ H2 H3 hi ⟨v4, v5, rfl, sm, hl⟩ ⟨rfl, rfl⟩
      have eri : c.work.presses[i]? = some c.work.presses[i] := List.getElem?_eq_getElem hi
      generalize c.work.presses[i] = r1 at eri
      have fw := ok.fit r1 (List.mem_of_getElem? eri)
      have rh := fw.ok.rh
      have lo1 := rh.lo
      have hi6 := rh.hi
      obtain ⟨v, evi, t1, a1, b1, tb1, rfl, ht1, pa⟩ := (ep.imp (RStamp.kt (Kt.of sm))).of eri
      have wk : worksL c.work.presses c.lifts i b = (downAt r1.rhythm b && !(upFold c.lifts i b).2) := by
        unfold worksL
        rw [eri]
      have m0 : 0 ≤ (b - 1) % (r1.rhythm.length : Int) := Int.emod_nonneg _ (by omega)
      have m1 : (b - 1) % (r1.rhythm.length : Int) < (r1.rhythm.length : Int) := Int.emod_lt_of_pos _ (by omega)
      have dA : downAt r1.rhythm b = decide (r1.rhythm[((b - 1) % (r1.rhythm.length : Int)).toNat]? = some 120) := rfl
      obtain ⟨j, hj⟩ : ∃ j : Nat, (b - 1) % (r1.rhythm.length : Int) = (j : Int) := ⟨_, (Int.toNat_of_nonneg m0).symm⟩
      rw [hj, Int.toNat_natCast] at dA
      have jl : j < r1.rhythm.length := by omega
      have at_ : r1.rhythm[j]? = some r1.rhythm[j] := List.getElem?_eq_getElem jl
      rw [at_] at dA
      generalize r1.rhythm[j] = ch at dA at_
      have wl := working_len c.work.presses c.lifts b i
      have nx : natsV ((List.range (i + 1)).filter fun j => worksL c.work.presses c.lifts j b) = natsV ((List.range i).filter fun j => worksL c.work.presses c.lifts j b) ++ (if worksL c.work.presses c.lifts i b = true then [V.int (i : Int)] else []) := by
        rw [List.range_succ, List.filter_append]
        unfold natsV
        rw [List.map_append]
        cases hw : worksL c.work.presses c.lifts i b <;> simp [hw]
      refine ⟨.ref rd, rfl, rd, _, rfl, get_presses (sm _ _ hraw), .int (0 + (i : Int)), rfl, lp, m, _, _, rfl, rfl, SqL.of (sm _ _ hlp), nth0 evi, t1, _, 3, _, rfl, rfl, SqT.of ht1, atI_nat (j := 3) rfl, ?_⟩
      refine ⟨.str (tx r1.rhythm), rfl, .int b, rfl, b, 1, rfl, rfl, .str (tx r1.rhythm), rfl, .str (tx r1.rhythm), r1.rhythm.length, rfl, ⟨fit_tx (by omega), (tx_len _).symm⟩, b - 1, (r1.rhythm.length : Int), rfl, rfl, (by show (0 : Int) < (r1.rhythm.length : Int); omega), tx r1.rhythm, _, ch, rfl, rfl, fit_tx (by omega), ?_, rfl, _, rfl, ?_⟩
      · rw [tx_list, hj]
        exact atI_nat at_
      by_cases c1 : ch = 120
      · refine yesOf ((x_sign ch).trans (decide_eq_true c1)) ?_
        have dT : downAt r1.rhythm b = true := by
          rw [dA, c1]
          exact decide_eq_true rfl
        rw [dT, Bool.true_and] at wk
        refine ⟨.ref te, rfl, te, _, 1, _, rfl, rfl, SqT.of (sm _ _ hte), atI_nat (j := 1) rfl, .int (0 + (i : Int)), rfl, .int b, rfl, b, 1, rfl, rfl, ll, ml, c.lifts, i, b - 1, congrArg (fun z => [V.ref ll, V.int z, V.int (b - 1)]) (Int.zero_add _), sm _ _ hll, ev.imp (RLift.kn (Kn.of sm)), fun H6 s6 => ⟨_, rfl, ?_⟩⟩
        have eb1 : b - 1 + 1 = b := by omega
        rw [eb1]
        have hl6 := s6 _ _ hl
        cases hup : (upFold c.lifts i b).2 with
        | true =>
          refine noOf rfl ?_
          rw [hup] at wk
          refine ⟨_, _, rfl, sm.trans s6, ?_⟩
          rw [nx, wk, hl6]
          simp
        | false =>
          refine yesOf rfl ?_
          rw [hup] at wk
          refine ⟨.ref l, rfl, .inl ⟨rfl, _, SqL.of hl6⟩, .int (0 + (i : Int)), rfl, l, _, _, rfl, rfl, hl6, ?_, ?_⟩
          · unfold natsV
            rw [List.length_map]
            exact small1000 (by omega)
          · refine ⟨_, _, rfl, same_put (sm.trans s6) nl, ?_⟩
            rw [upd_same, nx, wk, Int.zero_add]
            rfl
      · refine noOf ((x_sign ch).trans (decide_eq_false c1)) ?_
        have dF : downAt r1.rhythm b = false := by
          rw [dA]
          exact decide_eq_false (fun z => c1 (Option.some.inj z))
        rw [dF, Bool.false_and] at wk
        refine ⟨_, _, rfl, sm, ?_⟩
        rw [nx, wk, hl]
        simp
    · rintro σ H2 ⟨v4, v5, rfl, sm, hl⟩
      exact ⟨.ref l, rfl, q l H2 sm nl hl⟩
end
end K23
set_option Elab.async false
set_option linter.all false
set_option maxRecDepth 100000
set_option maxHeartbeats 4000000
/-! The law's own hand: what are rows, what is a run. -/
namespace K23
open PySem PySem.Spec PyProof.Rows L2 Bp
section
variable {P : Program} {w : World} {K : PySem.W.Frag} {mg : Str → Option Value} {base : Heap} {CC CW CB CP : Addr}
abbrev NsAr : List Str := ["_law_raw_here", "_law_thing", "_law_text", "_law_band", "_law_one"]
theorem scAr : FnScope NsAr ["_law_raw_here", "_law_thing"] (defScope s_law_are_rows) := ⟨rfl, rfl, rfl, by decide +kernel, rfl, by decide +kernel, by decide +kernel⟩
def sp_are_rows : Sp := fun vs H Q _ => ∃ (rd t : Addr) (k : WorkL) (R : List (List Nat)), vs = [.ref rd, .ref t] ∧ IsRaw H rd k ∧ k.Ok ∧ H t = some (.tup (txs R)) ∧ RowsOk k R ∧ ∀ H', Same H H' → Q (.bl true) H'
theorem ok_are_rows {f : Addr} {fd : FuncData} {k : Nat} (B : Blt mg) (zi : mg "zip" = none) (F : Fun K "_law_are_rows" "_law_are_rows" s_law_are_rows f fd) : FnOk P w K mg base CX0 (k + 1) f fd ["_law_raw_here", "_law_thing"] sp_are_rows := by
  refine F.ok scAr (fun vs H Q E h => ?_) (fun cdv A outer sh H vs Q E hr h => ?_)
  · obtain ⟨rd, t, k, R, rfl, _⟩ := h
    rfl
  · obtain ⟨rd, t, k, R, rfl, ir, ok, ht, ro, q⟩ := h
    have hu := hu_of hr
    have hu64 : A.units + 3 + 64 < cLine := by
      have := hr.un
      have e : (A.deeper (envOfC "_law_are_rows" (defScope s_law_are_rows) sh.heap.objs.size f cdv)).units = A.units + 3 := rfl
      omega
    refine ⟨_, pss_cons (ps_if (PW.pt (pw_or (pt_not (pt_val (pe_callB call_isi (by rfl) B.isi (by decide +kernel) (pa_cons (pv 1) (pa_cons (pe_bltn (u := .type "tuple") (v := .ty "tuple") (by rfl) B.tuple (by decide +kernel) (by rfl)) pa_nil)))))
        (pw_or1 (pt_cmpR op_ne (pe_callB call_len (by rfl) B.len PySem.boot_len (pa_cons (pv 1) pa_nil)) (pe_callB call_len (by rfl) B.len PySem.boot_len (pa_cons (pe_dget hu (pv 0) pe_str (fun _ _ => rfl)) pa_nil)) (nomark _))))) (pss_one (ps_ret pe_bl)) pss_nil)
      (pss_cons (ps_for PassesOwn.never rfl (pi_zipM false true (by rfl) zi (pa_cons (pv 1) (pa_cons (pe_dget hu (pv 0) pe_str (fun _ _ => rfl)) pa_nil))) (pg_tup rfl (pgs_cons (pg_name (i := 2) scAr.nd rfl (Or.inl rfl)) (pgs_cons (pg_name (i := 3) scAr.nd rfl (Or.inl rfl)) pgs_nil)))
        (pss_one (ps_if (PW.pt (pw_or (pt_not (pt_val (pe_callB call_isi (by rfl) B.isi (by decide +kernel) (pa_cons (pv 2) (pa_cons (pe_bltn (u := .type "str") (v := .ty "str") (by rfl) B.str (by decide +kernel) (by rfl)) pa_nil)))))
          (pw_or (pt_cmpR op_ne (pe_callB call_len (by rfl) B.len PySem.boot_len (pa_cons (pv 2) pa_nil)) (pe_ix ix_tup (pv 3) pe_int (fun _ _ => rfl)) (nomark _))
          (pw_or1 (pt_cmpR (op_neD hu64) (pe_lc (own := [("_law_one", 4)]) (g := gName 4) rfl scAr.nd (pi_str (pv 2)) (blkOk_by (own := [("_law_one", 4)]) (N := NsAr) (sc := defScope s_law_are_rows) (by decide +kernel))
            (fun _ _ _ _ _ => pg_name (i := 4) scAr.nd rfl (Or.inl rfl)) (fun _ _ _ _ _ => pts_one (pt_cmpR op_notIn_sign (pv 4) (pe_dget hu (pv 0) pe_str (fun _ _ => rfl)) (by rfl))) (fun _ _ _ _ _ => pv 4)) (pe_lst pa_nil) (nomark _)))))) (pss_one (ps_ret pe_bl)) pss_nil)))
      (pss_one (ps_ret pe_bl))), ?_⟩
    obtain ⟨lb, lp, lq, l0, m, qs, hrd, hlb, eb, hlp, ep, hlq, el⟩ := id ir
    have hraw : H rd = some (.dK (rawKvs k.signs lb lp lq)) := hrd
    have b6 := ok.bs.hi
    refine ⟨.ref t, rfl, .ref t, .ty "tuple", .type "tuple", .type "tuple", true, rfl, .ty _, .base (.tup ht), kit_ty (by decide +kernel), true, rfl, noOf rfl ?_⟩
    refine ⟨.ref t, rfl, .ref t, k.bands.length, rfl, .inr ⟨_, SqT.of ht, by rw [txs_len, ro.len]⟩, .ref rd, rfl, rd, _, rfl, get_bands hraw, .ref lb, k.bands.length, rfl, .inl ⟨_, SqL.of hlb, eb.1.symm⟩, rfl, _, rfl, noOf (by rw [decide_eq_true rfl]; rfl) ?_⟩
    have lr : (txs R).length = l0.length := by rw [txs_len, ro.len, eb.1]
    refine ⟨.ref t, rfl, .ref rd, rfl, rd, _, rfl, get_bands hraw, t, lb, txs R, l0, rfl, SqT.of ht, SqL.of hlb, ?_⟩
    refine for_it (walk_zipM (K := K) (l1 := false) (l2 := true) (a := t) (b := lb) lr) (fun i σ H1 => ∃ v2 v3 v4, σ = [some (.ref rd), some (.ref t), v2, v3, v4] ∧ Same H H1) ⟨none, none, none, rfl, Same.refl _⟩ (fun i σ H1 _ z => by obtain ⟨_, _, _, _, sm⟩ := z; exact ⟨SqT.of (sm _ _ ht), SqL.of (sm _ _ hlb)⟩) ?_ ?_
    · rintro i x σ H1 H2 hi ⟨v2, v3, v4, rfl, sm⟩ ⟨T, x1, x2, rfl, nT, rfl, e1, e2⟩
      obtain ⟨m1, em⟩ : ∃ m, R[i]? = some m := ⟨R[i]'(by rw [txs_len] at hi; exact hi), List.getElem?_eq_getElem _⟩
      have e3 := txs_get em
      rw [e1] at e3
      obtain rfl := Option.some.inj e3
      have sT := sm.trans (same_new (o := .tup [.str (tx m1), x2]) nT)
      obtain ⟨b, ebi, tb, rfl, htb⟩ := (eb.imp (RBand.kt (Kt.of sm))).at_ e2
      have sT1 := same_new (o := .tup [.str (tx m1), .ref tb]) nT
      obtain ⟨lm, im⟩ := ro.each i m1 b em ebi
      have b12 := (ok.bs.each b (List.mem_of_getElem? ebi)).hi
      have fit := fit_tx (m := m1) (by omega)
      refine ⟨T, _, rfl, SqT.of upd_same, rfl, _, _, rfl, _, _, rfl, rfl, ?_⟩
      refine ⟨.str (tx m1), rfl, .str (tx m1), .ty "str", .type "str", .type "str", true, rfl, .ty _, .base (.str _), kit_ty (by decide +kernel), true, rfl, noOf rfl ?_⟩
      refine ⟨.str (tx m1), rfl, .str (tx m1), m1.length, rfl, ⟨fit, (tx_len m1).symm⟩, .ref tb, rfl, tb, _, 1, _, rfl, rfl, SqT.of (sT1 _ _ htb), atI_nat (j := 1) rfl, rfl, _, rfl, noOf (by rw [lm, decide_eq_true rfl]; rfl) ?_⟩
      refine ⟨.str (tx m1), rfl, tx m1, rfl, fun D nD => ?_⟩
      refine lc_v (walk_str (z := tx m1)) (fun _ _ => trivial) (fun i _ r => r = []) (fun _ => rfl) (fun i _ r _ e => by rw [e]; exact Nat.zero_le _) (fun _ _ _ _ _ e => e) nD ?_ ?_
      · rintro j y H3 H4 r Qy Qn hj sm3 er ⟨rfl, c, hc, rfl⟩ qy qn
        have hc' : m1[j]? = some c := by rw [← tx_list m1, Array.getElem?_toList]; exact hc
        have hg : c ∈ (tx k.signs).cps.toList := by
          rw [tx_list]
          exact im c (List.mem_of_getElem? hc')
        refine ⟨rfl, .str (tx [c]), rfl, .ref rd, rfl, rd, _, rfl, get_signs (sm3 _ _ (sT _ _ hraw)), c, tx k.signs, rfl, rfl, _, rfl, noOf (by rw [decide_eq_true hg]; rfl) (qn _ (Same.refl _) er)⟩
      · intro H3 r s3 er hD
        rw [er] at hD
        refine ⟨(by show 0 ≤ sizeLine; decide), fun l2 nl2 => ?_⟩
        have s4 := same_new (o := .lst []) nl2
        refine ⟨_, _, dp_ints (ns := []) (SqL.of (s4 _ _ hD)), dp_ints (ns := []) (SqL.of upd_same), shaped_ints [], shaped_ints [], _, rfl, noOf (by rfl) ?_⟩
        exact ⟨_, _, _, rfl, (sT.trans s3).trans s4⟩
    · rintro σ H1 ⟨v2, v3, v4, rfl, sm⟩
      exact q H1 sm
end
end K23
set_option Elab.async false
set_option linter.all false
set_option maxRecDepth 100000
set_option maxHeartbeats 4000000
/-! Lists of small numbers as they are shown; rows as data; what is a run, whether a step is right. -/
namespace K23
open PySem PySem.Spec PyProof.Rows L2 Bp
theorem shown_few (n : Nat) (h : n < 300) : (toString (n : Int) : Str).length ≤ 3 ∧ ((n : Int).natAbs.log2 < 1920) := by
  have all : ∀ n : Nat, n < 300 → ((toString (n : Int) : Str).length ≤ 3 ∧ ((n : Int).natAbs.log2 < 1920)) := by decide +kernel
  exact all n h
theorem textFrom_most : ∀ (ts : List Str) (k : Nat) (acc : Str), (∀ t ∈ ts, t.length ≤ 3) → (textFrom k acc ts).length ≤ acc.length + 5 * ts.length
  | [], _, acc, _ => by
    show acc.length ≤ _
    omega
  | t :: r, k, acc, h => by
    have ih := textFrom_most r (k + 1) (acc ++ (if k > 0 then ", " else "" : String) ++ t) fun x hx => h x (List.mem_cons_of_mem _ hx)
    have tl := h t (List.mem_cons_self ..)
    have e : (acc ++ (if k > 0 then ", " else "" : String) ++ t).length ≤ acc.length + 5 := by
      rw [strLen_append, strLen_append]
      have e2 : (Str.ofString (if k > 0 then ", " else "" : String)).length ≤ 2 := by
        split
        · exact Nat.le_of_eq (by decide)
        · exact Nat.le_trans (Nat.le_of_eq (by decide : (Str.ofString "").length = 0)) (by decide)
      omega
    show (textFrom (k + 1) (acc ++ (if k > 0 then ", " else "" : String) ++ t) r).length ≤ _
    rw [List.length_cons]
    omega
def natsD (l : List Nat) : PyData := .list (l.map fun (n : Nat) => PyData.int (n : Int))
theorem dp_nats {K : PySem.W.Frag} {H : Hp} {a : Addr} {l : List Nat} (h : SqL K H a (natsV l)) : Dp K H (.ref a) (natsD l) := by
  refine .lst h ?_
  have all : ∀ l : List Nat, DpAll K H (natsV l) (l.map fun (n : Nat) => PyData.int (n : Int)) := by
    intro l
    induction l with
    | nil => exact .nil
    | cons m l ih => exact .cons (.int _) ih
  exact all l
theorem nats_all (l : List Nat) (h : ∀ n ∈ l, n < 300) : PyData.showableAll (l.map fun (n : Nat) => PyData.int (n : Int)) = true ∧ PyData.hasDictAll (l.map fun (n : Nat) => PyData.int (n : Int)) = false ∧ PyData.depthAll (l.map fun (n : Nat) => PyData.int (n : Int)) = 0 ∧
    PyData.canLayAll0 (l.map fun (n : Nat) => PyData.int (n : Int)) = true ∧ (PyData.shownAll (l.map fun (n : Nat) => PyData.int (n : Int))).length = l.length ∧ ∀ t ∈ PyData.shownAll (l.map fun (n : Nat) => PyData.int (n : Int)), t.length ≤ 3 := by
  induction l with
  | nil =>
    rw [List.map_nil, PyData.showableAll, PyData.hasDictAll, PyData.depthAll, PyData.canLayAll0, PyData.shownAll]
    exact ⟨rfl, rfl, rfl, rfl, rfl, fun t h => by cases h⟩
  | cons n l ih =>
    obtain ⟨i1, i2, i3, i4, i5, i6⟩ := ih fun x hx => h x (List.mem_cons_of_mem _ hx)
    obtain ⟨s1, s2⟩ := shown_few n (h n (List.mem_cons_self ..))
    rw [List.map_cons, PyData.showableAll, PyData.hasDictAll, PyData.depthAll, PyData.canLayAll0, PyData.shownAll, i1, i2, i3, i4, PyData.showable, PyData.hasDict, PyData.depth, PyData.canLay0, PyData.shown]
    refine ⟨by rw [decide_eq_true s2]; rfl, rfl, rfl, rfl, by rw [List.length_cons, List.length_cons, i5], fun t ht => ?_⟩
    rcases List.mem_cons.mp ht with rfl | ht
    · exact s1
    · exact i6 t ht
theorem nats_fits {l : List Nat} (h : ∀ n ∈ l, n < 300) (few : l.length ≤ 1000) : (natsD l).showable = true ∧ (natsD l).hasDict = false ∧ (natsD l).depth ≤ 60 ∧ (natsD l).shown.length ≤ sizeLine ∧ SeqAt.shaped (natsD l) = true := by
  obtain ⟨i1, i2, i3, i4, i5, i6⟩ := nats_all l h
  unfold natsD
  refine ⟨by rw [PyData.showable]; exact i1, by rw [PyData.hasDict]; exact i2, by rw [PyData.depth, i3]; decide, ?_, ?_⟩
  · rw [PyData.shown, sizeLine_eq]
    have m := textFrom_most (PyData.shownAll (l.map fun (n : Nat) => PyData.int (n : Int))) 0 "[" i6
    show (textFrom 0 "[" _ ++ "]").length ≤ _
    rw [strLen_append]
    have e1 : ("[" : Str).length = 1 := rfl
    have e2 : ("]" : Str).length = 1 := rfl
    rw [i5] at m
    omega
  · unfold SeqAt.shaped
    rw [PyData.canLay0, i4, PyData.depth, i3]
    rfl
/-! ### rows as data -/
def rowsD (R : List (List Nat)) : PyData := .tuple (R.map fun m => PyData.str (tx m))
theorem dp_rows {K : PySem.W.Frag} {H : Hp} {t : Addr} {R : List (List Nat)} (h : H t = some (.tup (txs R))) : Dp K H (.ref t) (rowsD R) := by
  refine .tup (SqT.of h) ?_
  have all : ∀ l : List (List Nat), DpAll K H (txs l) (l.map fun m => PyData.str (tx m)) := by
    intro l
    induction l with
    | nil => exact .nil
    | cons m l ih => exact .cons (.str _) ih
  exact all R
theorem lay_rows {R : List (List Nat)} (h : ∀ m ∈ R, Low m) : PyData.canLay0 (rowsD R) = true := by
  unfold rowsD
  rw [PyData.canLay0]
  exact canLay_texts h
theorem depth_rows (R : List (List Nat)) : PyData.depth (rowsD R) = 1 := by
  unfold rowsD
  rw [PyData.depth, depth_texts]
theorem shaped_rows {R : List (List Nat)} (h : ∀ m ∈ R, Low m) : SeqAt.shaped (rowsD R) = true := by
  unfold SeqAt.shaped
  rw [lay_rows h, depth_rows]
  rfl
theorem rows_all : ∀ (Rs : List (List (List Nat))), (∀ R ∈ Rs, ∀ m ∈ R, Low m) → PyData.canLayAll0 (Rs.map rowsD) = true ∧ PyData.depthAll (Rs.map rowsD) ≤ 1
  | [], _ => by
    rw [List.map_nil, PyData.canLayAll0, PyData.depthAll]
    exact ⟨rfl, by omega⟩
  | R :: Rs, h => by
    obtain ⟨a, b⟩ := rows_all Rs fun x hx => h x (List.mem_cons_of_mem _ hx)
    rw [List.map_cons, PyData.canLayAll0, PyData.depthAll, a, lay_rows (h R (List.mem_cons_self ..)), depth_rows]
    exact ⟨rfl, by omega⟩
theorem shaped_runs {Rs : List (List (List Nat))} (h : ∀ R ∈ Rs, ∀ m ∈ R, Low m) : SeqAt.shaped (.list (Rs.map rowsD)) = true := by
  obtain ⟨a, b⟩ := rows_all Rs h
  unfold SeqAt.shaped
  rw [PyData.canLay0, a, PyData.depth, Bool.true_and]
  exact decide_eq_true (by omega)
theorem dps_rows {K : PySem.W.Frag} {H : Hp} : ∀ {m : List V} {Rs : List (List (List Nat))}, Each RRows H m Rs → DpAll K H m (Rs.map rowsD)
  | [], [], _ => .nil
  | [], _ :: _, h => by
    have := h.1
    simp at this
  | _ :: _, [], h => by
    have := h.1
    simp at this
  | v :: m, R :: Rs, h => by
    obtain ⟨t, rfl, ht⟩ := h.2 0 v R rfl rfl
    exact .cons (dp_rows ht) (dps_rows ⟨by simpa using h.1, fun i x y e1 e2 => h.2 (i + 1) x y (by simpa using e1) (by simpa using e2)⟩)
theorem dp_runs {K : PySem.W.Frag} {H : Hp} {l : Addr} {m : List V} {Rs : List (List (List Nat))} (hl : H l = some (.lst m)) (h : Each RRows H m Rs) : Dp K H (.ref l) (.list (Rs.map rowsD)) := .lst (SqL.of hl) (dps_rows h)
theorem rows_low {k : WorkL} (ok : k.Ok) {R : List (List Nat)} (ro : RowsOk k R) : ∀ m ∈ R, Low m := fun m hm c hc => by
  obtain ⟨i, hi⟩ := List.mem_iff_getElem?.mp hm
  have il : i < k.bands.length := by
    rw [← ro.len]
    exact (List.getElem?_eq_some_iff.mp hi).1
  exact ok.sg.small c ((ro.each i m _ hi (List.getElem?_eq_getElem il)).2 c hc)
section
variable {P : Program} {w : World} {K : PySem.W.Frag} {mg : Str → Option Value} {base : Heap} {CC CW CB CP : Addr}
abbrev NsIr : List Str := ["_law_raw_here", "_law_told", "_law_due", "_law_one"]
theorem scIr : FnScope NsIr ["_law_raw_here", "_law_told", "_law_due"] (defScope s_law_is_run) := ⟨rfl, rfl, rfl, by decide +kernel, rfl, by decide +kernel, by decide +kernel⟩
def sp_is_run : Sp := fun vs H Q _ => ∃ (rd l1 l2 : Addr) (m1 m2 : List V) (k : WorkL) (Rs : List (List (List Nat))), vs = [.ref rd, .ref l1, .ref l2] ∧ IsRaw H rd k ∧ k.Ok ∧ H l1 = some (.lst m1) ∧ Each RRows H m1 Rs ∧ H l2 = some (.lst m2) ∧ Each RRows H m2 Rs ∧ (∀ R ∈ Rs, RowsOk k R) ∧ ∀ H', Same H H' → Q (.bl true) H'
theorem ok_is_run {f fA : Addr} {fd fdA : FuncData} {k : Nat} (B : Blt mg) (F : Fun K "_law_is_run" "_law_is_run" s_law_is_run f fd) (FA : Fun K "_law_are_rows" "_law_are_rows" s_law_are_rows fA fdA) (bA : Binds K fdA ["_law_raw_here", "_law_thing"] []) (gA : mg "_law_are_rows" = some (.ref fA))
    (GA : FnOk P w K mg base CX0 k fA fdA ["_law_raw_here", "_law_thing"] sp_are_rows) : FnOk P w K mg base CX0 (k + 1) f fd ["_law_raw_here", "_law_told", "_law_due"] sp_is_run := by
  refine F.ok scIr (fun vs H Q E h => ?_) (fun cdv A outer sh H vs Q E hr h => ?_)
  · obtain ⟨rd, l1, l2, m1, m2, k, Rs, rfl, _⟩ := h
    rfl
  · obtain ⟨rd, l1, l2, m1, m2, k, Rs, rfl, ir, ok, h1, e1, h2, e2, all, q⟩ := h
    have hu64 : A.units + 3 + 64 < cLine := by
      have := hr.un
      have e : (A.deeper (envOfC "_law_is_run" (defScope s_law_is_run) sh.heap.objs.size f cdv)).units = A.units + 3 := rfl
      omega
    refine ⟨_, pss_cons (ps_if (PW.pt (pw_or (pt_not (pt_val (pe_callB call_isi (by rfl) B.isi (by decide +kernel) (pa_cons (pv 1) (pa_cons (pe_bltn (u := .type "list") (v := .ty "list") (by rfl) B.list (by decide +kernel) (by rfl)) pa_nil)))))
        (pw_or1 (pt_cmpR (op_neD hu64) (pe_lc (own := [("_law_one", 3)]) (g := gName 3) rfl scIr.nd (pi_list (pv 1)) (blkOk_by (own := [("_law_one", 3)]) (N := NsIr) (sc := defScope s_law_is_run) (by decide +kernel))
            (fun _ _ _ _ _ => pg_name (i := 3) scIr.nd rfl (Or.inl rfl)) (fun _ _ _ _ _ => pts_one (pt_not (pt_val (pe_call GA hr rfl gA FA.kp bA .nil pass0 (pa_cons (pv 0) (pa_cons (pv 3) pa_nil)))))) (fun _ _ _ _ _ => pv 3)) (pe_lst pa_nil) (nomark _))))) (pss_one (ps_ret pe_bl)) pss_nil)
      (pss_one (ps_ret (pe_cmpR (op_eqD hu64) (pv 1) (pv 2) (nomark _)))), ?_⟩
    refine ⟨.ref l1, rfl, .ref l1, .ty "list", .type "list", .type "list", true, rfl, .ty _, .base (.lst h1), kit_ty (by decide +kernel), true, rfl, noOf rfl ?_⟩
    refine ⟨.ref l1, rfl, l1, rfl, ⟨_, SqL.of h1⟩, fun D nD => ?_⟩
    refine lc_v (H := H) (walk_list (K := K) (a := l1) (xs := m1)) (fun H3 sm => SqL.of (sm _ _ h1)) (fun i _ r => r = []) (fun _ => rfl) (fun i _ r _ e => by rw [e]; exact Nat.zero_le _) (fun _ _ _ _ _ e => e) nD ?_ ?_
    · rintro j x H3 H4 r Qy Qn hj sm er ⟨rfl, hx⟩ qy qn
      obtain ⟨R, eR, t, rfl, ht⟩ := (e1.imp (RRows.kn (Kn.of sm))).at_ hx
      exact ⟨rfl, .ref rd, rfl, .ref t, rfl, rd, t, k, R, rfl, ir.same sm, ok, ht, all R (List.mem_of_getElem? eR), fun H5 s5 => ⟨true, rfl, noOf rfl (qn _ s5 er)⟩⟩
    · intro H3 r s3 er hD
      rw [er] at hD
      refine ⟨(by show 0 ≤ sizeLine; decide), fun l3 nl3 => ?_⟩
      have s4 := same_new (o := .lst []) nl3
      refine ⟨_, _, dp_ints (ns := []) (SqL.of (s4 _ _ hD)), dp_ints (ns := []) (SqL.of upd_same), shaped_ints [], shaped_ints [], _, rfl, noOf (by rfl) ?_⟩
      have s34 := s3.trans s4
      have sh_ := shaped_runs (Rs := Rs) fun R hR => rows_low ok (all R hR)
      refine ⟨.ref l1, rfl, .ref l2, rfl, _, _, dp_runs (s34 _ _ h1) (e1.imp (RRows.kn (Kn.of s34))), dp_runs (s34 _ _ h2) (e2.imp (RRows.kn (Kn.of s34))), sh_, sh_, ?_⟩
      exact qbl (SeqAt.eqv_refl _ (SeqAt.canLay_of_shaped sh_)) (q _ s34)
end
end K23
set_option Elab.async false
set_option linter.all false
set_option maxRecDepth 100000
set_option maxHeartbeats 4000000
/-! The law's own hand: whether a step is right. -/
namespace K23
open PySem PySem.Spec PyProof.Rows L2 Bp
section
variable {P : Program} {w : World} {K : PySem.W.Frag} {mg : Str → Option Value} {base : Heap} {CC CW CB CP : Addr}
/-- a def of the text where no display is under way -/
theorem okG {x qual : Str} {st : Stmt} {f : Addr} {fd : FuncData} {N ps : List Str} {k : Nat} {sp : Sp} (F : Fun K x qual st f fd) (S : FnScope N ps (defScope st)) (len : ∀ vs H Q E, sp vs H Q E → vs.length = ps.length)
    (hbody : ∀ (cdv : Value) (A : Around) (outer : List Env) (s : Shared) (H : Hp) (vs : List V) (Q : VK) (E : XK), RoomG k (A.deeper (envOfC qual (defScope st) s.heap.objs.size f cdv)) → sp vs H Q E →
      ∃ t, PSs (cxOf CX0 P w K mg base N qual (defScope st) f cdv A outer s H E) (defBody st) t ∧ t { nx := fun _ H' => Q .non H', rt := Q } (start N vs) H) : FnG P w K mg base CX0 (k + 1) f fd ps sp := by
  obtain ⟨oc, od, kV, doc, pm, an, cdv, ct, osl, rfl, lk, hcd⟩ := F.ex
  exact fnG_of lk hcd S len fun A outer s H vs Q E hr hsp => hbody cdv A outer s H vs Q E hr hsp
theorem working_small (rs : List PressL) (ls : List LiftL) (b : Int) (few : rs.length ≤ 8) : (∀ n ∈ workingL rs ls b, n < 300) ∧ (workingL rs ls b).length ≤ 1000 := by
  refine ⟨fun n hn => ?_, ?_⟩
  · have := List.mem_range.mp (List.mem_filter.mp hn).1
    omega
  · have := working_len rs ls b rs.length
    unfold workingL
    omega
abbrev NsSr : List Str := ["_law_raw_here", "_law_events_here", "_law_track", "_law_rows_here", "_law_beat_here", "_law_due", "_law_numbers", "_law_told"]
abbrev PsSr : List Str := ["_law_raw_here", "_law_events_here", "_law_track", "_law_rows_here", "_law_beat_here", "_law_due"]
theorem scSr : FnScope NsSr PsSr (defScope s_law_step_right) := ⟨rfl, rfl, rfl, by decide +kernel, rfl, by decide +kernel, by decide +kernel⟩
def sp_step (CC CW CB CP : Addr) : Sp := fun vs H Q _ => ∃ (rd te tr t u : Addr) (c : CourseL) (R : List (List Nat)) (b : Int), vs = [.ref rd, .ref te, .ref tr, .ref t, .int b, .ref u] ∧ IsRaw H rd c.work ∧ c.Ok ∧ IsEv H te c.puts c.lifts ∧ IsCourse CC CW CB CP H tr c ∧ H t = some (.tup (txs R)) ∧ RowsOk c.work R ∧ H u = some (.tup (txs (beatL c R (b + 1)))) ∧
  ∀ H', Same H H' → Q (.bl true) H'
theorem ok_step {f fP fW fN fA : Addr} {fd fdP fdW fdN fdA : FuncData} {k : Nat} (B : Blt mg) (rep : mg "repr" = none) (F : Fun K "_law_step_right" "_law_step_right" s_law_step_right f fd)
    (FP : Fun K "presses_at" "presses_at" s_presses_at fP fdP) (bP : Binds K fdP ["course", "beat"] []) (gP : mg "presses_at" = some (.ref fP)) (GP : FnOk P w K mg base CX0 k fP fdP ["course", "beat"] (sp_presses_at CC CW CB CP))
    (FW : Fun K "_law_working" "_law_working" s_law_working fW fdW) (bW : Binds K fdW ["_law_raw_here", "_law_events_here", "_law_beat_here"] []) (gW : mg "_law_working" = some (.ref fW)) (GW : FnOk P w K mg base CX0 k fW fdW ["_law_raw_here", "_law_events_here", "_law_beat_here"] (sp_working K))
    (FN : Fun K "next_rows" "next_rows" s_next_rows fN fdN) (bN : Binds K fdN ["course", "rows", "beat"] []) (gN : mg "next_rows" = some (.ref fN)) (GN : FnOk P w K mg base CX0 k fN fdN ["course", "rows", "beat"] (sp_next_rows CC CW CB CP))
    (FA : Fun K "_law_are_rows" "_law_are_rows" s_law_are_rows fA fdA) (bA : Binds K fdA ["_law_raw_here", "_law_thing"] []) (gA : mg "_law_are_rows" = some (.ref fA)) (GA : FnOk P w K mg base CX0 k fA fdA ["_law_raw_here", "_law_thing"] sp_are_rows) :
    FnG P w K mg base CX0 (k + 1) f fd PsSr (sp_step CC CW CB CP) := by
  refine okG F scSr (fun vs H Q E h => ?_) (fun cdv A outer sh H vs Q E hrG h => ?_)
  · obtain ⟨rd, te, tr, t, u, c, R, b, rfl, _⟩ := h
    rfl
  · obtain ⟨rd, te, tr, t, u, c, R, b, rfl, ir, ok, ie, ic, ht, ro, hdue, q⟩ := h
    have hr := hrG.room
    have quiet := hrG.quiet
    have hu64 : A.units + 3 + 64 < cLine := by
      have := hr.un
      have e : (A.deeper (envOfC "_law_step_right" (defScope s_law_step_right) sh.heap.objs.size f cdv)).units = A.units + 3 := rfl
      omega
    refine ⟨_, pss_cons (ps_set (i := 6) scSr.nd rfl (.inl rfl) (pe_call GP hr rfl gP FP.kp bP .nil pass0 (pa_cons (pv 2) (pa_cons (pe_op op_add (pv 4) pe_int) pa_nil))))
      (pss_cons (ps_if (PW.pt (pw_or (pt_not (pt_val (pe_callB call_isi (by rfl) B.isi (by decide +kernel) (pa_cons (pv 6) (pa_cons (pe_bltn (u := .type "list") (v := .ty "list") (by rfl) B.list (by decide +kernel) (by rfl)) pa_nil)))))
        (pw_or1 (pt_cmpR op_ne (pe_callB (call_reprD quiet hu64) (by rfl) rep (by decide +kernel) (pa_cons (pv 6) pa_nil))
          (pe_callB (call_reprD quiet hu64) (by rfl) rep (by decide +kernel) (pa_cons (pe_call GW hr rfl gW FW.kp bW .nil pass0 (pa_cons (pv 0) (pa_cons (pv 1) (pa_cons (pe_op op_add (pv 4) pe_int) pa_nil)))) pa_nil)) (nomark _))))) (pss_one (ps_ret pe_bl)) pss_nil)
      (pss_cons (ps_expr (pe_bm PySem.F.plainAttrs_list PySem.F.slot_list_append PySem.F.type_list_append mt_append (pv 6) (pa_cons pe_str pa_nil)))
      (pss_cons (ps_if (pt_cmpR (op_neD hu64) (pe_call GP hr rfl gP FP.kp bP .nil pass0 (pa_cons (pv 2) (pa_cons (pe_op op_add (pv 4) pe_int) pa_nil))) (pe_call GW hr rfl gW FW.kp bW .nil pass0 (pa_cons (pv 0) (pa_cons (pv 1) (pa_cons (pe_op op_add (pv 4) pe_int) pa_nil)))) (nomark _)) (pss_one (ps_ret pe_bl)) pss_nil)
      (pss_cons (ps_set (i := 7) scSr.nd rfl (.inl rfl) (pe_call GN hr rfl gN FN.kp bN .nil pass0 (pa_cons (pv 2) (pa_cons (pv 3) (pa_cons (pv 4) pa_nil)))))
      (pss_one (ps_ret (pe_and (pe_call GA hr rfl gA FA.kp bA .nil pass0 (pa_cons (pv 0) (pa_cons (pv 7) pa_nil))) (pe_one (pe_cmpR (op_eqD hu64) (pv 7) (pv 5) (nomark _)))))))))), ?_⟩
    obtain ⟨w1, w2⟩ := working_small c.work.presses c.lifts (b + 1) ok.wk.few
    have nf := nats_fits w1 w2
    refine ⟨.ref tr, rfl, .int b, rfl, _, _, rfl, rfl, tr, c, b + 1, rfl, ic, ok, fun ln H1 s1 nln hln => ?_⟩
    refine ⟨.ref ln, rfl, .ref ln, .ty "list", .type "list", .type "list", true, rfl, .ty _, .base (.lst hln), kit_ty (by decide +kernel), true, rfl, noOf rfl ?_⟩
    refine ⟨.ref ln, rfl, ln, _, rfl, dp_nats (SqL.of hln), nf.1, nf.2.1, nf.2.2.1, nf.2.2.2.1, .ref rd, rfl, .ref te, rfl, .int b, rfl, _, _, rfl, rfl, rd, te, c, b + 1, rfl, ir.same s1, ok.wk, ie.same s1, fun lm H2 s2 nlm hlm => ?_⟩
    have s12 := s1.trans s2
    refine ⟨lm, _, rfl, dp_nats (SqL.of hlm), nf.1, nf.2.1, nf.2.2.1, nf.2.2.2.1, rfl, _, rfl, noOf (by rw [decide_eq_true rfl]; rfl) ?_⟩
    have hln2 := s2 _ _ hln
    refine ⟨.ref ln, rfl, .inl ⟨rfl, _, SqL.of hln2⟩, ln, _, _, rfl, rfl, hln2, ?_, ?_⟩
    · unfold natsV
      rw [List.length_map]
      exact small1000 w2
    have s3 : Same H (upd H2 ln (.lst (natsV (workingL c.work.presses c.lifts (b + 1)) ++ [.str "more"]))) := same_put s12 nln
    generalize upd H2 ln (.lst (natsV (workingL c.work.presses c.lifts (b + 1)) ++ [.str "more"])) = H3 at s3
    refine ⟨.ref tr, rfl, .int b, rfl, _, _, rfl, rfl, tr, c, b + 1, rfl, ic.same s3, ok, fun lo H4 s4 nlo hlo => ?_⟩
    have s34 := s3.trans s4
    refine ⟨.ref rd, rfl, .ref te, rfl, .int b, rfl, _, _, rfl, rfl, rd, te, c, b + 1, rfl, ir.same s34, ok.wk, ie.same s34, fun lp H5 s5 nlp hlp => ?_⟩
    have s35 := s34.trans s5
    refine ⟨_, _, dp_nats (SqL.of (s5 _ _ hlo)), dp_nats (SqL.of hlp), nf.2.2.2.2, nf.2.2.2.2, _, rfl, noOf (by rw [SeqAt.eqv_refl _ (SeqAt.canLay_of_shaped nf.2.2.2.2)]; rfl) ?_⟩
    refine ⟨.ref tr, rfl, .ref t, rfl, .int b, rfl, tr, t, c, R, b, rfl, ic.same s35, ok, s35 _ _ ht, ro, fun v H6 s6 hv => ?_⟩
    have s36 := s35.trans s6
    have bo := beat_ok ok ro (b + 1)
    refine ⟨.ref rd, rfl, .ref v, rfl, rd, v, c.work, _, rfl, ir.same s36, ok.wk, hv, bo, fun H7 s7 => ⟨true, rfl, iteT ?_⟩⟩
    have sr := shaped_rows (rows_low ok.wk bo)
    refine ⟨.ref v, rfl, .ref u, rfl, _, _, dp_rows (s7 _ _ hv), dp_rows ((s36.trans s7) _ _ hdue), sr, sr, ?_⟩
    exact qbl (SeqAt.eqv_refl _ (SeqAt.canLay_of_shaped sr)) (q _ (s36.trans s7))
end
end K23
set_option Elab.async false
set_option linter.all false
set_option maxRecDepth 100000
set_option maxHeartbeats 4000000
/-! The law's own hand: puts and lifts are drawn. -/
namespace K23
open PySem PySem.Spec PyProof.Rows L2 Bp
theorem RPut.kt {H H' : Hp} (k : Kt H H') : ∀ v u, RPut H v u → RPut H' v u := fun v u ⟨t, tp, e, h, ip⟩ => ⟨t, tp, e, k _ _ (by intro xs z; cases z) (by intro xs z; cases z) h, ip.kt k⟩
theorem RLift.kt {H H' : Hp} (k : Kt H H') : ∀ v u, RLift H v u → RLift H' v u := fun v u ⟨t, e, h⟩ => ⟨t, e, k _ _ (by intro xs z; cases z) (by intro xs z; cases z) h⟩
def stampD (r : PressL) : PyData := .tuple [placeD r.above, placeD r.below, .tuple (r.table.map fun m => PyData.str (tx m)), .str (tx r.rhythm)]
theorem rhythm_lay {m : List Nat} (h : RhythmOk m) : PyData.canLay0 (.str (tx m)) = true := by
  rw [PyData.canLay0]
  refine Array.all_eq_true_iff_forall_mem.mpr fun c hc => ?_
  have hc' : c ∈ m := by
    unfold tx at hc
    simpa using hc
  have := h.each c hc'
  exact decide_eq_true (by omega)
theorem stamp_lay {n : Nat} {r : PressL} (h : r.Ok n) : PyData.canLay0 (stampD r) = true ∧ PyData.depth (stampD r) ≤ 2 := by
  have lt : PyData.canLay0 (.tuple (r.table.map fun m => PyData.str (tx m))) = true := by
    rw [PyData.canLay0]
    exact canLay_texts fun m hm => (h.tb.each m hm).2
  have dt : PyData.depth (.tuple (r.table.map fun m => PyData.str (tx m))) = 1 := by rw [PyData.depth, depth_texts]
  have ds : PyData.depth (.str (tx r.rhythm)) = 0 := by rw [PyData.depth]
  have lr := rhythm_lay h.rh
  unfold stampD
  generalize PyData.tuple (r.table.map fun m => PyData.str (tx m)) = X at lt dt ⊢
  generalize PyData.str (tx r.rhythm) = Y at lr ds ⊢
  rw [PyData.canLay0, PyData.canLayAll0, PyData.canLayAll0, PyData.canLayAll0, PyData.canLayAll0, PyData.canLayAll0, lay_place h.a1.low, lay_place h.b1.low, lt, lr,
    PyData.depth, PyData.depthAll, PyData.depthAll, PyData.depthAll, PyData.depthAll, PyData.depthAll, depth_place, depth_place, dt, ds]
  exact ⟨rfl, by decide⟩
theorem stamps_lay {n : Nat} : ∀ {rs : List PressL}, (∀ r ∈ rs, r.Ok n) → PyData.canLayAll0 (rs.map stampD) = true ∧ PyData.depthAll (rs.map stampD) ≤ 2
  | [], _ => by
    rw [List.map_nil, PyData.canLayAll0, PyData.depthAll]
    exact ⟨rfl, by omega⟩
  | r :: rs, h => by
    obtain ⟨a, b⟩ := stamps_lay (rs := rs) fun x hx => h x (List.mem_cons_of_mem _ hx)
    obtain ⟨c, d⟩ := stamp_lay (h r (List.mem_cons_self ..))
    rw [List.map_cons, PyData.canLayAll0, PyData.depthAll, a, c]
    exact ⟨rfl, by omega⟩
theorem shaped_stamps {n : Nat} {rs : List PressL} (h : ∀ r ∈ rs, r.Ok n) : SeqAt.shaped (.list (rs.map stampD)) = true := by
  obtain ⟨a, b⟩ := stamps_lay h
  unfold SeqAt.shaped
  rw [PyData.canLay0, a, PyData.depth, Bool.true_and]
  exact decide_eq_true (by omega)
theorem dps_stamps {K : PySem.W.Frag} {H : Hp} : ∀ {m : List V} {rs : List PressL}, Each RStamp H m rs → DpAll K H m (rs.map stampD)
  | [], [], _ => .nil
  | [], _ :: _, h => by
    have := h.1
    simp at this
  | _ :: _, [], h => by
    have := h.1
    simp at this
  | v :: m, r :: rs, h => by
    obtain ⟨t, a, b, tb, rfl, ht, pa⟩ := h.2 0 v r rfl rfl
    have all : ∀ l : List (List Nat), DpAll K H (txs l) (l.map fun m => PyData.str (tx m)) := by
      intro l
      induction l with
      | nil => exact .nil
      | cons m l ih => exact .cons (.str _) ih
    exact .cons (.tup (SqT.of ht) (.cons (dp_place pa.ab) (.cons (dp_place pa.be) (.cons (.tup (SqT.of pa.tb) (all _)) (.cons (.str _) .nil))))) (dps_stamps ⟨by simpa using h.1, fun i x y e1 e2 => h.2 (i + 1) x y (by simpa using e1) (by simpa using e2)⟩)
section
variable {P : Program} {w : World} {K : PySem.W.Frag} {mg : Str → Option Value} {base : Heap} {CC CW CB CP : Addr}
abbrev NsEv : List Str := ["_law_feed_here", "_law_raw_here", "_law_since", "_law_most", "_law_laying", "_law_raising", "_law_k", "_law_beat_here", "_law_number"]
theorem scEv : FnScope NsEv ["_law_feed_here", "_law_raw_here", "_law_since", "_law_most"] (defScope s_law_events) := ⟨rfl, rfl, rfl, by decide +kernel, rfl, by decide +kernel, by decide +kernel⟩
def sp_events (K : PySem.W.Frag) : Sp := fun vs H Q _ => ∃ (g : Fed) (rd : Addr) (k : WorkL) (since most n : Nat), vs = [.ref g.f, .ref rd, .int since, .int most] ∧ IsRaw H rd k ∧ k.Ok ∧ rd ≠ g.f ∧ most ≤ 100 ∧ FeedAt K H g n ∧ n ≤ 2 ^ 30 ∧
  ∀ ps ls te H', (∀ u ∈ ps, u.Ok k) → (∀ u ∈ ls, u.Ok k) → ps.length + ls.length ≤ 12 → H te = none → IsEv H' te ps ls → FeedAt K H' g (n + 40) → Kept g.f H H' → Q (.ref te) H'
theorem ok_events {f fD fP : Addr} {fd fdD fdP : FuncData} {k : Nat} (B : Blt mg) (mm : mg "min" = none) (mx : mg "max" = none) (F : Fun K "_law_events" "_law_events" s_law_events f fd) (FD : Fun K "_law_draw" "_law_draw" s_law_draw fD fdD) (bD : Binds K fdD ["_law_feed_here", "_law_many"] []) (gD : mg "_law_draw" = some (.ref fD))
    (GD : Drw P w K mg base k fD fdD) (FP : Fun K "_law_pick" "_law_pick" s_law_pick fP fdP) (bP : Binds K fdP ["_law_feed_here", "_law_some"] []) (gP : mg "_law_pick" = some (.ref fP)) (GP : Pck P w K mg base k fP fdP) :
    FnOk P w K mg base CX0 (k + 1) f fd ["_law_feed_here", "_law_raw_here", "_law_since", "_law_most"] (sp_events K) := by
  refine F.ok scEv (fun vs H Q E h => ?_) (fun cdv A outer sh H vs Q E hr h => ?_)
  · obtain ⟨g, rd, k, since, most, n, rfl, _⟩ := h
    rfl
  · obtain ⟨g, rd, k, since, most, n, rfl, ir, ok, ne, m100, fe, hn, q⟩ := h
    have hu := hu_of hr
    have hu64 : A.units + 3 + 64 < cLine := by
      have := hr.un
      have e : (A.deeper (envOfC "_law_events" (defScope s_law_events) sh.heap.objs.size f cdv)).units = A.units + 3 := rfl
      omega
    refine ⟨_, pss_cons (ps_par (i := 4) (j := 5) rfl scEv.nd rfl rfl (by decide) rfl rfl (pa_cons (pe_lst pa_nil) (pa_cons (pe_lst pa_nil) pa_nil)) (by rfl))
      (pss_cons (ps_for PassesOwn.never rfl (pi_range1 (by rfl) B.rng (pa_cons (pe_call GD hr rfl gD FD.kp bD .nil pass0 (pa_cons (pv 0) (pa_cons pe_int pa_nil))) pa_nil)) (pg_name (i := 6) scEv.nd rfl (Or.inl rfl))
        (pss_cons (ps_set (i := 7) scEv.nd rfl (.inl rfl) (pe_callB (call_min2 rfl) (by rfl) mm (by decide +kernel) (pa_cons (pe_op op_pow pe_int pe_int) (pa_cons (pe_op op_add (pv 2) (pe_call GD hr rfl gD FD.kp bD .nil pass0 (pa_cons (pv 0) (pa_cons (pe_op op_add (pv 3) pe_int) pa_nil)))) pa_nil))))
        (pss_one (ps_if (pt_cmpR op_gt (pv 7) pe_int (nomark _))
          (pss_one (ps_expr (pe_bm PySem.F.plainAttrs_list PySem.F.slot_list_append PySem.F.type_list_append mt_append (pv 4) (pa_cons (pe_tup (pa_cons (pv 7)
            (pa_cons (pe_call GP hr rfl gP FP.kp bP .nil pass0 (pa_cons (pv 0) (pa_cons (pe_dget hu (pv 1) pe_str (fun _ _ => rfl)) pa_nil))) (pa_cons (pe_call GP hr rfl gP FP.kp bP .nil pass0 (pa_cons (pv 0) (pa_cons (pe_dget hu (pv 1) pe_str (fun _ _ => rfl)) pa_nil))) pa_nil)))) pa_nil)))) pss_nil))))
      (pss_cons (ps_for PassesOwn.never rfl (pi_range1 (by rfl) B.rng (pa_cons (pe_op op_mul (pe_call GD hr rfl gD FD.kp bD .nil pass0 (pa_cons (pv 0) (pa_cons pe_int pa_nil)))
          (pe_callTy call_int1 (by rfl) B.int (by decide +kernel) (pa_cons (pe_cmpR (op_neD hu64) (pe_dget hu (pv 1) pe_str (fun _ _ => rfl)) (pe_lst pa_nil) (nomark _)) pa_nil))) pa_nil)) (pg_name (i := 6) scEv.nd rfl (Or.inl rfl))
        (pss_cons (ps_set (i := 7) scEv.nd rfl (.inl rfl) (pe_callB (call_min2 rfl) (by rfl) mm (by decide +kernel) (pa_cons (pe_op op_pow pe_int pe_int) (pa_cons (pe_callB (call_max2 rfl) (by rfl) mx (by decide +kernel) (pa_cons pe_int
          (pa_cons (pe_op op_sub (pe_op op_add (pv 2) (pe_call GD hr rfl gD FD.kp bD .nil pass0 (pa_cons (pv 0) (pa_cons (pe_op op_add (pv 3) pe_int) pa_nil)))) pe_int) pa_nil))) pa_nil))))
        (pss_cons (ps_set (i := 8) scEv.nd rfl (.inl rfl) (pe_call GD hr rfl gD FD.kp bD .nil pass0 (pa_cons (pv 0) (pa_cons (pe_callB call_len (by rfl) B.len PySem.boot_len (pa_cons (pe_dget hu (pv 1) pe_str (fun _ _ => rfl)) pa_nil)) pa_nil))))
        (pss_one (ps_expr (pe_bm PySem.F.plainAttrs_list PySem.F.slot_list_append PySem.F.type_list_append mt_append (pv 5) (pa_cons (pe_tup (pa_cons (pv 7) (pa_cons (pv 8)
          (pa_cons (pe_call GP hr rfl gP FP.kp bP .nil pass0 (pa_cons (pv 0) (pa_cons (pe_lst (pa_cons pe_str (pa_cons pe_str (pa_cons pe_str pa_nil)))) pa_nil))) pa_nil)))) pa_nil)))))))
      (pss_one (ps_ret (pe_tup (pa_cons (pv 4) (pa_cons (pv 5) pa_nil))))))), ?_⟩
    obtain ⟨lb, lp, lq, l0, m0, qs, hrd, hlb, eb, hlp, ep, hlq, el⟩ := id ir
    have hraw : H rd = some (.dK (rawKvs k.signs lb lp lq)) := hrd
    have p8 := ok.few
    have sg4 := ok.sg.hi
    have sg2 := ok.sg.lo
    obtain ⟨fkv, hfd⟩ := fe.dict
    have lqf : lq ≠ g.f := ne_of hlq hfd (by intro z; cases z)
    have lpf : lp ≠ g.f := ne_of hlp hfd (by intro z; cases z)
    have plen : k.places.length ≤ 40 := by
      show (placesL k.bands).length ≤ 40
      rw [placesL_len]
      exact ok.bs.all
    have ppos : 0 < k.places.length := by
      show 0 < (placesL k.bands).length
      rw [placesL_len]
      have lo := ok.bs.lo
      cases hbs : k.bands with
      | nil =>
        rw [hbs] at lo
        exact absurd lo (by decide)
      | cons b bs =>
        have := (ok.bs.each b (by rw [hbs]; exact List.mem_cons_self ..)).lo
        rw [List.map_cons, List.sum_cons]
        omega
    have e60 : (10 : Int) ^ (60 : Int).toNat = 10 ^ 60 := rfl
    refine ⟨(by show 0 ≤ sizeLine; decide), fun la nla => ⟨(by show 0 ≤ sizeLine; decide), fun lr nlr => ?_⟩⟩
    have ar : la ≠ lr := ne_of_none upd_same nlr
    have sA := (same_new (o := .lst []) nla).trans (same_new (o := .lst []) nlr)
    have hla1 : upd (upd H la (.lst [])) lr (.lst []) la = some (.lst []) := by rw [upd_ne ar, upd_same]
    have hlr1 : upd (upd H la (.lst [])) lr (.lst []) lr = some (.lst []) := upd_same
    have nlrH : H lr = none := none_back (same_new nla) nlr
    have fe1 := fe.same sA
    generalize upd (upd H la (.lst [])) lr (.lst []) = H1 at sA hla1 hlr1 fe1
    have laf : la ≠ g.f := fe.ne nla
    have lrf : lr ≠ g.f := fe.ne nlrH
    refine ⟨_, _, rfl, .ref g.f, rfl, g, 7, n, rfl, fe1, by omega, by decide, by decide, fun d H2 d0 d1 fe2 kp2 => ?_⟩
    obtain ⟨e, rfl⟩ := Int.eq_ofNat_of_zero_le d0
    refine ⟨(e : Int), rfl, by omega, by omega, ?_⟩
    rw [Int.toNat_natCast]
    refine for_it (walk_range (lo := 0) (n := e)) (fun i σ H' => ∃ v6 v7 m ps, σ = [some (.ref g.f), some (.ref rd), some (.int since), some (.int most), some (.ref la), some (.ref lr), v6, v7, none] ∧ H' la = some (.lst m) ∧ Each RPut H' m ps ∧ (∀ u ∈ ps, u.Ok k) ∧ ps.length ≤ i ∧ H' lr = some (.lst []) ∧ FeedAt K H' g (n + 1 + 3 * i) ∧ Kept g.f H H')
      ⟨none, none, [], [], rfl, kp2 _ _ laf hla1, Each.nil, (fun u hu => by cases hu), Nat.le_refl _, kp2 _ _ lrf hlr1, fe2, (Kept.of sA).trans kp2⟩ (fun _ _ _ _ _ => trivial) ?_ ?_
    · rintro i x σ H' H3 hi ⟨v6, v7, m, ps, rfl, hla3, em, oks, pl, hlr3, fe3, kp3⟩ ⟨rfl, rfl⟩
      refine ⟨10, 60, rfl, rfl, ⟨by decide, by decide, by decide⟩, .int since, rfl, .ref g.f, rfl, .int most, rfl, most, 2, rfl, rfl, g, (most : Int) + 2, _, rfl, fe3, by omega, by omega, Nat.lt_of_lt_of_le (show ((most : Int) + 2).natAbs < 2 ^ 10 by omega) (Nat.pow_le_pow_right (by decide) (by decide)), fun d2 H4 d20 d21 fe4 kp4 => ?_⟩
      refine ⟨_, _, rfl, rfl, _, _, rfl, ?_⟩
      obtain ⟨b, hb, b1⟩ : ∃ b : Nat, (if (since : Int) + d2 < (10 : Int) ^ (60 : Int).toNat then (since : Int) + d2 else (10 : Int) ^ (60 : Int).toNat) = (b : Int) ∧ (b : Int) ≤ 10 ^ 60 := by
        rw [e60]
        split
        · exact ⟨((since : Int) + d2).toNat, (Int.toNat_of_nonneg (by omega)).symm, by omega⟩
        · exact ⟨10 ^ 60, by omega, by omega⟩
      have hbV : V.int (if (since : Int) + d2 < (10 : Int) ^ (60 : Int).toNat then (since : Int) + d2 else (10 : Int) ^ (60 : Int).toNat) = .int (b : Int) := congrArg V.int hb
      show ∃ _, _
      rw [hbV]
      refine ⟨.int b, rfl, (b : Int), 0, rfl, rfl, _, rfl, ?_⟩
      have kp34 := kp3.trans kp4
      by_cases b0 : (b : Int) > 0
      · refine yesOf (decide_eq_true b0) ?_
        refine ⟨.ref la, rfl, .inl ⟨rfl, _, SqL.of (kp4 _ _ laf hla3)⟩, .int b, rfl, .ref g.f, rfl, .ref rd, rfl, rd, _, rfl, get_places (kp34 _ _ ne hraw), g, .ref lq, _, rfl, fe4, by omega, .inr ⟨lq, qs, rfl, SqL.of (kp34 _ _ lqf hlq), by rw [el.1]; exact ppos, by rw [el.1]; omega, fun y H5 hy fe5 kp5 => ?_⟩⟩
        have kp35 := kp34.trans kp5
        refine ⟨.ref g.f, rfl, .ref rd, rfl, rd, _, rfl, get_signs (kp35 _ _ ne hraw), g, .str (tx k.signs), _, rfl, fe5, by omega, .inl ⟨k.signs, rfl, by omega, by omega, fun c H6 hc fe6 kp6 => ?_⟩⟩
        refine ⟨(by show 3 ≤ sizeLine; decide), fun T nT => ?_⟩
        have hla6 := kp6 _ _ laf (kp5 _ _ laf (kp4 _ _ laf hla3))
        have hlr6 := kp6 _ _ lrf (kp5 _ _ lrf (kp4 _ _ lrf hlr3))
        have sT := same_new (o := .tup [.int (b : Int), y, .str (tx [c])]) nT
        have laT : la ≠ T := ne_of_none hla6 nT
        obtain ⟨jy, hjy⟩ := List.mem_iff_getElem?.mp hy
        have kp36 := kp35.trans kp6
        obtain ⟨s0, es0, tp0, rfl, htp0⟩ := (el.imp (RPlace.kt (Kt.kept fe kp36))).at_ hjy
        have ml := em.1
        refine ⟨la, m, .ref T, rfl, rfl, sT _ _ hla6, small1000 (by omega), ?_⟩
        have kt : Kt H3 (upd (upd H6 T (.tup [.int (b : Int), .ref tp0, .str (tx [c])])) la (.lst (m ++ [.ref T]))) :=
          (Kt.kept fe3 (kp4.trans (kp5.trans kp6))).trans ((Kt.kn (Kn.new nT)).trans (Kt.kn (Kn.put (sT _ _ hla6))))
        refine ⟨_, _, m ++ [.ref T], ps ++ [⟨b, s0, c⟩], rfl, upd_same, ?_, ?_, ?_, ?_, ?_, ?_⟩
        · refine (em.imp (RPut.kt kt)).snoc ⟨T, tp0, rfl, ?_, ?_⟩
          · rw [upd_ne (fun z => laT z.symm), upd_same]
          · exact (IsPlace.kt ((Kt.kn (Kn.new nT)).trans (Kt.kn (Kn.put (sT _ _ hla6)))) htp0)
        · intro u hu
          rcases List.mem_append.mp hu with hu | hu
          · exact oks u hu
          · rw [List.mem_singleton.mp hu]
            exact ⟨by show 1 ≤ b; omega, b1, List.mem_of_getElem? es0, hc⟩
        · rw [List.length_append]
          show ps.length + 1 ≤ i + 1
          omega
        · rw [upd_ne (fun z => ar z.symm)]
          exact sT _ _ hlr6
        · exact FeedAt.put fe nla ((fe6.same sT).le (by omega))
        · exact Kept.new (kp36.trans (Kept.of sT)) nla
      · refine noOf (decide_eq_false b0) ?_
        exact ⟨_, _, m, ps, rfl, kp4 _ _ laf hla3, em.imp (RPut.kt (Kt.kept fe3 kp4)), oks, by omega, kp4 _ _ lrf hlr3, fe4.le (by omega), kp34⟩
    rintro σ H3 ⟨v6, v7, m, ps, rfl, hla3, em, oks, pl, hlr3, fe3, kp3⟩
    have e7 : e < 7 := by omega
    have six : ps.length ≤ 6 := by omega
    refine ⟨.ref g.f, rfl, g, 6, _, rfl, fe3, by omega, by decide, by decide, fun d H4 d0 d1 fe4 kp4 => ?_⟩
    have kp34 := kp3.trans kp4
    refine ⟨.ref rd, rfl, rd, _, rfl, get_presses (kp34 _ _ ne hraw), (by show 0 ≤ sizeLine; decide), fun l2 nl2 => ?_⟩
    have s5 := same_new (o := .lst []) nl2
    have kp35 := kp34.trans (Kept.of s5)
    have fe5 := fe4.same s5
    have hlp5 := kp35 _ _ lpf hlp
    have ep5 := ep.imp (RStamp.kt (Kt.kept fe kp35))
    have hla5 := s5 _ _ (kp4 _ _ laf hla3)
    have hlr5 := s5 _ _ (kp4 _ _ lrf hlr3)
    have em5 := em.imp (RPut.kt (Kt.kept fe3 (kp4.trans (Kept.of s5))))
    have hl2 : upd H4 l2 (.lst []) l2 = some (.lst []) := upd_same
    generalize upd H4 l2 (.lst []) = H5 at s5 kp35 fe5 hlp5 ep5 hla5 hlr5 em5 hl2
    refine ⟨_, _, .lst (SqL.of hlp5) (dps_stamps ep5), dp_ints (ns := []) (SqL.of hl2), shaped_stamps (n := k.signs.length) (fun r hr => (ok.fit r hr).ok), shaped_ints [], .inr ⟨_, rfl, ?_⟩⟩
    obtain ⟨N, hN, N5, Np⟩ : ∃ N : Nat, d * (if (!PyData.eqv (.list (k.presses.map stampD)) (.list (([] : List Int).map PyData.int))) = true then 1 else 0) = (N : Int) ∧ N ≤ 5 ∧ (0 < N → 0 < k.presses.length) := by
      cases hp : k.presses with
      | nil =>
        have : PyData.eqv (.list (([] : List PressL).map stampD)) (.list (([] : List Int).map PyData.int)) = true := by rfl
        rw [this]
        exact ⟨0, by simp, by omega, fun h => absurd h (by omega)⟩
      | cons r rs =>
        obtain ⟨dn, rfl⟩ := Int.eq_ofNat_of_zero_le d0
        refine ⟨dn * (if (!PyData.eqv (.list ((r :: rs).map stampD)) (.list (([] : List Int).map PyData.int))) = true then 1 else 0), ?_, ?_, fun _ => Nat.succ_pos _⟩
        · split <;> simp
        · split <;> omega
    have hNV : V.int (d * (if (!PyData.eqv (.list (k.presses.map stampD)) (.list (([] : List Int).map PyData.int))) = true then 1 else 0)) = .int (N : Int) := congrArg V.int hN
    refine ⟨_, _, rfl, rfl, .inl ⟨by omega, by omega⟩, (N : Int), congrArg (fun z => [z]) hNV, by omega, by omega, ?_⟩
    rw [Int.toNat_natCast]
    refine for_it (walk_range (lo := 0) (n := N)) (fun i σ H' => ∃ v6 v7 v8 n2 ls, σ = [some (.ref g.f), some (.ref rd), some (.int since), some (.int most), some (.ref la), some (.ref lr), v6, v7, v8] ∧ H' la = some (.lst m) ∧ Each RPut H' m ps ∧ H' lr = some (.lst n2) ∧ Each RLift H' n2 ls ∧ (∀ u ∈ ls, u.Ok k) ∧ ls.length ≤ i ∧ FeedAt K H' g (n + 22 + 3 * i) ∧ Kept g.f H H')
      ⟨v6, v7, none, [], [], rfl, hla5, em5, hlr5, Each.nil, (fun u hu => by cases hu), Nat.le_refl _, fe5.le (by omega), kp35⟩ (fun _ _ _ _ _ => trivial) ?_ ?_
    · rintro i x σ H' H6 hi ⟨w6, w7, w8, n2, ls, rfl, hla6, em6, hlr6, el6, okl, ll, fe6, kp6⟩ ⟨rfl, rfl⟩
      have pp := Np (by omega)
      refine ⟨10, 60, rfl, rfl, ⟨by decide, by decide, by decide⟩, .int since, rfl, .ref g.f, rfl, .int most, rfl, most, 3, rfl, rfl, g, (most : Int) + 3, _, rfl, fe6, by omega, by omega, Nat.lt_of_lt_of_le (show ((most : Int) + 3).natAbs < 2 ^ 10 by omega) (Nat.pow_le_pow_right (by decide) (by decide)), fun d2 H7 d20 d21 fe7 kp7 => ?_⟩
      refine ⟨_, _, rfl, rfl, _, 2, rfl, rfl, 0, _, rfl, _, _, rfl, ?_⟩
      obtain ⟨b, hb, b1⟩ : ∃ b : Nat, (if (if (since : Int) + d2 - 2 > 0 then (since : Int) + d2 - 2 else 0) < (10 : Int) ^ (60 : Int).toNat then (if (since : Int) + d2 - 2 > 0 then (since : Int) + d2 - 2 else 0) else (10 : Int) ^ (60 : Int).toNat) = (b : Int) ∧ (b : Int) ≤ 10 ^ 60 := by
        rw [e60]
        obtain ⟨y, hy, y0⟩ : ∃ y : Int, (if (since : Int) + d2 - 2 > 0 then (since : Int) + d2 - 2 else 0) = y ∧ 0 ≤ y := by
          split
          · exact ⟨_, rfl, by omega⟩
          · exact ⟨_, rfl, by omega⟩
        rw [hy]
        split
        · exact ⟨y.toNat, (Int.toNat_of_nonneg y0).symm, by omega⟩
        · exact ⟨10 ^ 60, by omega, by omega⟩
      have hbV : V.int (if (if (since : Int) + d2 - 2 > 0 then (since : Int) + d2 - 2 else 0) < (10 : Int) ^ (60 : Int).toNat then (if (since : Int) + d2 - 2 > 0 then (since : Int) + d2 - 2 else 0) else (10 : Int) ^ (60 : Int).toNat) = .int (b : Int) := congrArg V.int hb
      show ∃ _, _
      rw [hbV]
      have kp67 := kp6.trans kp7
      have hlp7 := kp67 _ _ lpf hlp
      refine ⟨.ref g.f, rfl, .ref rd, rfl, rd, _, rfl, get_presses (kp67 _ _ ne hraw), .ref lp, k.presses.length, rfl, .inl ⟨_, SqL.of hlp7, ep.1.symm⟩, g, (k.presses.length : Int), _, rfl, fe7, by omega, by omega, Nat.lt_of_lt_of_le (show (k.presses.length : Int).natAbs < 2 ^ 10 by omega) (Nat.pow_le_pow_right (by decide) (by decide)), fun d3 H8 d30 d31 fe8 kp8 => ?_⟩
      obtain ⟨pn, rfl⟩ := Int.eq_ofNat_of_zero_le d30
      have hlr8 := kp8 _ _ lrf (kp7 _ _ lrf hlr6)
      have hla8 := kp8 _ _ laf (kp7 _ _ laf hla6)
      refine ⟨.ref lr, rfl, .inl ⟨rfl, _, SqL.of hlr8⟩, .int b, rfl, .int (pn : Nat), rfl, .ref g.f, rfl, (by show 3 ≤ sizeLine; decide), fun l3 nl3 => ?_⟩
      have s9 := same_new (o := .lst [.str "up", .str "up", .str "down"]) nl3
      refine ⟨g, .ref l3, _, rfl, fe8.same s9, by omega, .inr ⟨l3, _, rfl, SqL.of upd_same, by decide, by decide, fun y H9 hy fe9 kp9 => ?_⟩⟩
      obtain ⟨up, rfl⟩ : ∃ up, y = .str (wordOf up) := by
        simp only [List.mem_cons, List.mem_nil_iff, or_false] at hy
        rcases hy with rfl | rfl | rfl
        · exact ⟨true, rfl⟩
        · exact ⟨true, rfl⟩
        · exact ⟨false, rfl⟩
      refine ⟨(by show 3 ≤ sizeLine; decide), fun T nT => ?_⟩
      have sT := same_new (o := .tup [.int (b : Int), .int (pn : Int), .str (wordOf up)]) nT
      have hlr9 := sT _ _ (kp9 _ _ lrf (s9 _ _ hlr8))
      have hla9 := sT _ _ (kp9 _ _ laf (s9 _ _ hla8))
      have kp69 := kp7.trans (kp8.trans ((Kept.of s9).trans kp9))
      have lrT : lr ≠ T := ne_of_none (kp9 _ _ lrf (s9 _ _ hlr8)) nT
      have ml := el6.1
      refine ⟨lr, n2, .ref T, rfl, rfl, hlr9, small1000 (by omega), ?_⟩
      have kt : Kt H6 (upd (upd H9 T (.tup [.int (b : Int), .int (pn : Int), .str (wordOf up)])) lr (.lst (n2 ++ [.ref T]))) :=
        (Kt.kept fe6 kp69).trans ((Kt.kn (Kn.new nT)).trans (Kt.kn (Kn.put hlr9)))
      refine ⟨_, _, _, n2 ++ [.ref T], ls ++ [⟨b, pn, up⟩], rfl, ?_, em6.imp (RPut.kt kt), upd_same, ?_, ?_, ?_, ?_, ?_⟩
      · rw [upd_ne ar]
        exact hla9
      · refine (el6.imp (RLift.kt kt)).snoc ⟨T, rfl, ?_⟩
        rw [upd_ne (fun z => lrT z.symm), upd_same]
      · intro u hu
        rcases List.mem_append.mp hu with hu | hu
        · exact okl u hu
        · rw [List.mem_singleton.mp hu]
          exact ⟨b1, by show pn < k.presses.length; omega⟩
      · rw [List.length_append]
        show ls.length + 1 ≤ i + 1
        omega
      · exact FeedAt.put fe nlrH ((fe9.same sT).le (by omega))
      · exact Kept.new ((kp6.trans kp69).trans (Kept.of sT)) nlrH
    rintro σ H6 ⟨w6, w7, w8, n2, ls, rfl, hla6, em6, hlr6, el6, okl, ll, fe6, kp6⟩
    refine ⟨.ref la, rfl, .ref lr, rfl, (by show 2 ≤ sizeLine; decide), fun T nT => ?_⟩
    have sT := same_new (o := .tup [.ref la, .ref lr]) nT
    exact q ps ls T _ oks okl (by omega) (Kept.none kp6 (fe6.ne nT) nT) ⟨la, lr, m, n2, upd_same, sT _ _ hla6, em6.imp (RPut.kt (Kt.of sT)), sT _ _ hlr6, el6.imp (RLift.kt (Kt.of sT))⟩ ((fe6.le (by omega)).same sT) (kp6.trans (Kept.of sT))
end
end K23
set_option Elab.async false
set_option linter.all false
set_option maxRecDepth 100000
set_option maxHeartbeats 8000000
/-! The law. -/
namespace K23
open PySem PySem.Spec PyProof.Rows L2 Bp
def putD (u : PutL) : PyData := .tuple [.int u.beat, placeD u.place, .str (tx [u.sign])]
def liftD (u : LiftL) : PyData := .tuple [.int u.beat, .int u.press, .str (wordOf u.up)]
def evD (ps : List PutL) (ls : List LiftL) : PyData := .tuple [.list (ps.map putD), .list (ls.map liftD)]
theorem dps_puts {K : PySem.W.Frag} {H : Hp} : ∀ {m : List V} {ps : List PutL}, Each RPut H m ps → DpAll K H m (ps.map putD)
  | [], [], _ => .nil
  | [], _ :: _, h => by
    have := h.1
    simp at this
  | _ :: _, [], h => by
    have := h.1
    simp at this
  | v :: m, u :: ps, h => by
    obtain ⟨t, tp, rfl, ht, ip⟩ := h.2 0 v u rfl rfl
    exact .cons (.tup (SqT.of ht) (.cons (.int _) (.cons (dp_place ip) (.cons (.str _) .nil)))) (dps_puts ⟨by simpa using h.1, fun i x y e1 e2 => h.2 (i + 1) x y (by simpa using e1) (by simpa using e2)⟩)
theorem dps_lifts {K : PySem.W.Frag} {H : Hp} : ∀ {m : List V} {ls : List LiftL}, Each RLift H m ls → DpAll K H m (ls.map liftD)
  | [], [], _ => .nil
  | [], _ :: _, h => by
    have := h.1
    simp at this
  | _ :: _, [], h => by
    have := h.1
    simp at this
  | v :: m, u :: ls, h => by
    obtain ⟨t, rfl, ht⟩ := h.2 0 v u rfl rfl
    exact .cons (.tup (SqT.of ht) (.cons (.int _) (.cons (.int _) (.cons (.str _) .nil)))) (dps_lifts ⟨by simpa using h.1, fun i x y e1 e2 => h.2 (i + 1) x y (by simpa using e1) (by simpa using e2)⟩)
theorem dp_ev {K : PySem.W.Frag} {H : Hp} {te : Addr} {ps : List PutL} {ls : List LiftL} (h : IsEv H te ps ls) : Dp K H (.ref te) (evD ps ls) := by
  obtain ⟨la, ll, m, n, e, e1, h1, e2, h2⟩ := h
  exact .tup (SqT.of e) (.cons (.lst (SqL.of e1) (dps_puts h1)) (.cons (.lst (SqL.of e2) (dps_lifts h2)) .nil))
theorem puts_lay {k : WorkL} (ok : k.Ok) : ∀ {ps : List PutL}, (∀ u ∈ ps, u.Ok k) → PyData.canLayAll0 (ps.map putD) = true ∧ PyData.depthAll (ps.map putD) ≤ 2
  | [], _ => by
    rw [List.map_nil, PyData.canLayAll0, PyData.depthAll]
    exact ⟨rfl, by omega⟩
  | u :: ps, h => by
    obtain ⟨a, b⟩ := puts_lay ok (ps := ps) fun x hx => h x (List.mem_cons_of_mem _ hx)
    have uo := h u (List.mem_cons_self ..)
    have lp := lay_place (places_low ok.bs.each _ uo.pl).low
    have lsg : PyData.canLay0 (.str (tx [u.sign])) = true := lay_tx fun c hc => by
      rw [List.mem_singleton.mp hc]
      exact ok.sg.small _ uo.sg
    have c : PyData.canLay0 (putD u) = true := by
      unfold putD
      rw [PyData.canLay0, PyData.canLayAll0, PyData.canLayAll0, PyData.canLayAll0, PyData.canLayAll0, lp, lsg, PyData.canLay0]
      rfl
    have d : PyData.depth (putD u) = 2 := by
      unfold putD
      rw [PyData.depth, PyData.depthAll, PyData.depthAll, PyData.depthAll, PyData.depthAll, depth_place, PyData.depth, PyData.depth]
      rfl
    rw [List.map_cons, PyData.canLayAll0, PyData.depthAll, a, c, d]
    exact ⟨rfl, by omega⟩
theorem lifts_lay : ∀ {ls : List LiftL}, PyData.canLayAll0 (ls.map liftD) = true ∧ PyData.depthAll (ls.map liftD) ≤ 1
  | [] => by
    rw [List.map_nil, PyData.canLayAll0, PyData.depthAll]
    exact ⟨rfl, by omega⟩
  | u :: ls => by
    obtain ⟨a, b⟩ := lifts_lay (ls := ls)
    have lw : PyData.canLay0 (.str (wordOf u.up)) = true := by
      rw [PyData.canLay0]
      cases u.up <;> decide +kernel
    have c : PyData.canLay0 (liftD u) = true := by
      unfold liftD
      generalize PyData.str (wordOf u.up) = Y at lw ⊢
      rw [PyData.canLay0, PyData.canLayAll0, PyData.canLayAll0, PyData.canLayAll0, PyData.canLayAll0, lw, PyData.canLay0, PyData.canLay0]
      rfl
    have d : PyData.depth (liftD u) = 1 := by
      unfold liftD
      rw [PyData.depth, PyData.depthAll, PyData.depthAll, PyData.depthAll, PyData.depthAll, PyData.depth, PyData.depth, PyData.depth]
      rfl
    rw [List.map_cons, PyData.canLayAll0, PyData.depthAll, a, c, d]
    exact ⟨rfl, by omega⟩
theorem shaped_ev {k : WorkL} (ok : k.Ok) {ps : List PutL} (h : ∀ u ∈ ps, u.Ok k) (ls : List LiftL) : SeqAt.shaped (evD ps ls) = true := by
  obtain ⟨a, b⟩ := puts_lay ok h
  obtain ⟨c, d⟩ := lifts_lay (ls := ls)
  have e1 : PyData.canLay0 (.list (ps.map putD)) = true := by rw [PyData.canLay0]; exact a
  have e2 : PyData.canLay0 (.list (ls.map liftD)) = true := by rw [PyData.canLay0]; exact c
  have e3 : PyData.depth (.list (ps.map putD)) ≤ 3 := by rw [PyData.depth]; omega
  have e4 : PyData.depth (.list (ls.map liftD)) ≤ 3 := by rw [PyData.depth]; omega
  unfold SeqAt.shaped evD
  generalize PyData.list (ps.map putD) = X at e1 e3 ⊢
  generalize PyData.list (ls.map liftD) = Y at e2 e4 ⊢
  rw [PyData.canLay0, PyData.canLayAll0, PyData.canLayAll0, PyData.canLayAll0, e1, e2, PyData.depth, PyData.depthAll, PyData.depthAll, PyData.depthAll]
  refine (Bool.and_eq_true _ _).mpr ⟨rfl, decide_eq_true ?_⟩
  omega
theorem runL_step (c : CourseL) (R : List (List Nat)) (b : Int) : ∀ (n k : Nat), k < n → ∃ Rk, (runL c R b n)[k]? = some Rk ∧ (runL c R b n)[k + 1]? = some (beatL c Rk (b + (k : Int) + 1))
  | 0, k, h => by omega
  | n + 1, k, h => by
    have ln := runL_len c R b n
    have e : runL c R b (n + 1) = runL c R b n ++ [beatL c ((runL c R b n).getLastD R) (b + (n : Int) + 1)] := rfl
    rw [e]
    by_cases lt : k < n
    · obtain ⟨Rk, e1, e2⟩ := runL_step c R b n k lt
      exact ⟨Rk, by rw [List.getElem?_append_left (by omega)]; exact e1, by rw [List.getElem?_append_left (by omega)]; exact e2⟩
    · obtain rfl : k = n := by omega
      have last := runL_last c R b k
      rw [List.getLast?_eq_getElem?, ln] at last
      refine ⟨_, by rw [List.getElem?_append_left (by omega)]; exact last, ?_⟩
      rw [List.getElem?_append_right (by omega), ln, Nat.sub_self]
      rfl
theorem IsEv.kd {H H' : Hp} {te : Addr} {ps : List PutL} {ls : List LiftL} (h : IsEv H te ps ls) (s : Kd H H') : IsEv H' te ps ls := by
  obtain ⟨la, ll, m, n, e, e1, h1, e2, h2⟩ := h
  exact ⟨la, ll, m, n, s _ _ (by intro xs z; cases z) e, s _ _ (by intro xs z; cases z) e1, h1.imp (RPut.kt s.kt), s _ _ (by intro xs z; cases z) e2, h2.imp (RLift.kt s.kt)⟩
abbrev bodyR : List Stmt := match defBody s_law with
  | [_, .For _ _ b _ _, _] => b.drop 4
  | _ => []
abbrev bodyL : List Stmt := bodyR.drop 6
section
variable {P : Program} {w : World} {K : PySem.W.Frag} {mg : Str → Option Value} {base : Heap} {CC CW CB CP : Addr}
abbrev NsW : List Str := ["_law_script", "_law_feed_here", "_law_turn", "_law_raw_here", "_law_since", "_law_events_here", "_law_rows_here", "_law_many", "_law_handed", "_law_track", "_law_due", "_law_told", "_law_k"]
theorem scLaw : FnScope NsW ["_law_script"] (defScope s_law) := ⟨rfl, rfl, rfl, by decide +kernel, rfl, by decide +kernel, by decide +kernel⟩
def spLaw (K : PySem.W.Frag) : Sp := fun vs H Q _ => ∃ (a : Addr) (ns : List Int), vs = [.ref a] ∧ SqL K H a (ns.map V.int) ∧ ns.length ≤ 1000 ∧ ∀ H', Q (.bl true) H'
/-- what the law calls -/
structure Calls (P : Program) (w : World) (K : PySem.W.Frag) (mg : Str → Option Value) (base : Heap) (CC CW CB CP : Addr) (k : Nat) : Prop where
  feed : Def P w K mg base CX0 k "_law_feed" s_law_feed ["_law_script"] (spFeed K)
  raw : Def P w K mg base CX0 k "_law_raw" s_law_raw ["_law_feed_here", "_law_sizes"] (sp_raw K)
  pick : Def P w K mg base CX0 k "_law_pick" s_law_pick ["_law_feed_here", "_law_some"] (spPick K)
  draw : Def P w K mg base CX0 k "_law_draw" s_law_draw ["_law_feed_here", "_law_many"] (spDraw K)
  events : Def P w K mg base CX0 k "_law_events" s_law_events ["_law_feed_here", "_law_raw_here", "_law_since", "_law_most"] (sp_events K)
  rows : Def P w K mg base CX0 k "_law_rows" s_law_rows ["_law_feed_here", "_law_raw_here"] (sp_rows K)
  course : Def P w K mg base CX0 k "_law_course" s_law_course ["_law_raw_here", "_law_events_here"] (sp_course CC CW CB CP)
  runs : Def P w K mg base CX0 k "_law_runs" s_law_runs ["_law_raw_here", "_law_events_here", "_law_rows_here", "_law_since", "_law_many"] (sp_runs K)
  is_run : Def P w K mg base CX0 k "_law_is_run" s_law_is_run ["_law_raw_here", "_law_told", "_law_due"] sp_is_run
theorem ok_law {k : Nat} (B : Blt mg) (mm : mg "min" = none) (h : Calls P w K mg base CC CW CB CP k)
    {fR fS : Addr} {fdR fdS : FuncData} (gR : mg "run" = some (.ref fR)) (pR : PySem.W.keepIn K (.ref fR) = true) (GR : FnOk P w K mg base CX0 k fR fdR ["course", "rows", "beats", "begin"] (sp_run CC CW CB CP)) (kR : KBn K fdR ["course", "rows", "beats", "begin"] 3 ["begin"] (fun us ws => us ++ ws) (fun vs zs => vs ++ zs))
    {d0 : Value} (v0 : Vals [V.int 0] [d0]) (bR : Binds K fdR ["course", "rows", "beats", "begin"] [d0])
    (FS : Fun K "_law_step_right" "_law_step_right" s_law_step_right fS fdS) (bS : Binds K fdS PsSr []) (gS : mg "_law_step_right" = some (.ref fS)) (GS : FnG P w K mg base CX0 k fS fdS PsSr (sp_step CC CW CB CP))
    {f : Addr} {fd : FuncData} (F : Fun K "law" "law" s_law f fd) : FnG P w K mg base CX0 (k + 1) f fd ["_law_script"] (spLaw K) := by
  obtain ⟨fF, fdF, FF, bF, gF, GF⟩ := h.feed.ex
  obtain ⟨fW, fdW, FW, bW, gW, GW⟩ := h.raw.ex
  obtain ⟨fP, fdP, FP, bP, gP, GP⟩ := h.pick.ex
  obtain ⟨fD, fdD, FD, bD, gD, GD⟩ := h.draw.ex
  obtain ⟨fE, fdE, FE, bE, gE, GE⟩ := h.events.ex
  obtain ⟨fO, fdO, FO, bO, gO, GO⟩ := h.rows.ex
  obtain ⟨fC, fdC, FC, bC, gC, GC⟩ := h.course.ex
  obtain ⟨fN, fdN, FN, bN, gN, GN⟩ := h.runs.ex
  obtain ⟨fI, fdI, FI, bI, gI, GI⟩ := h.is_run.ex
  refine okG F scLaw (fun vs H Q E h => ?_) (fun cdv A outer sh H vs Q E hrG h => ?_)
  · obtain ⟨a, ns, rfl, _⟩ := h
    rfl
  · obtain ⟨a, ns, rfl, hS, few, q⟩ := h
    have hr := hrG.room
    have hu := hu_of hr
    have hu64 : A.units + 3 + 64 < cLine := by
      have := hr.un
      have e : (A.deeper (envOfC "law" (defScope s_law) sh.heap.objs.size f cdv)).units = A.units + 3 := rfl
      omega
    obtain ⟨tL, hL, pL⟩ : ∃ t, PSs (cxOf CX0 P w K mg base NsW "law" (defScope s_law) f cdv A outer sh H E) bodyL t ∧ ∀ (D : Ends) (v0 v1 v2 v8 v11 v12 : Option V) (s mny : Nat) (rd te t1 tr ld : Addr) (md : List V) (c : CourseL) (R : List (List Nat)) (H : Hp), mny ≤ 1000 → IsRaw H rd c.work → c.Ok → IsEv H te c.puts c.lifts → IsCourse CC CW CB CP H tr c → RowsOk c.work R → H ld = some (.lst md) → Each RRows H md (runL c R s mny) →
        (∀ v12 H', Same H H' → D.nx [v0, v1, v2, some (.ref rd), some (.int s), some (.ref te), some (.ref t1), some (.int mny), v8, some (.ref tr), some (.ref ld), v11, v12] H') → t D [v0, v1, v2, some (.ref rd), some (.int s), some (.ref te), some (.ref t1), some (.int mny), v8, some (.ref tr), some (.ref ld), v11, v12] H := by
      refine ⟨_, (pss_one (ps_for (passes_of rfl) rfl (pi_range1 (by rfl) B.rng (pa_cons (pe_callB (call_min2 rfl) (by rfl) mm (by decide +kernel) (pa_cons (pv 7) (pa_cons pe_int pa_nil))) pa_nil)) (pg_name (i := 12) scLaw.nd rfl (Or.inl rfl))
          (pss_one (ps_if (pt_not (pt_val (pe_callG GS hrG rfl gS FS.kp bS .nil pass0 (pa_cons (pv 3) (pa_cons (pv 5) (pa_cons (pv 9) (pa_cons (pe_ix ix_list (pv 10) (pv 12) (fun _ _ => rfl)) (pa_cons (pe_op op_add (pv 4) (pv 12)) (pa_cons (pe_ix ix_list (pv 10) (pe_op op_add (pv 12) pe_int) (fun _ _ => rfl)) pa_nil))))))))) (pss_one (ps_ret pe_bl)) pss_nil)))), ?_⟩
      intro D v0 v1 v2 v8 v11 v12 s mny rd te t1 tr ld md c R H m1000 ir ok ie ic ro hld ed next
      have rok := runL_ok ok ro (s : Int) mny
      refine ⟨.int mny, rfl, (mny : Int), 25, rfl, _, rfl, ?_, ?_, ?_⟩
      · show -(2 ^ 62) ≤ (if (25 : Int) < (mny : Int) then (25 : Int) else (mny : Int))
        split <;> omega
      · show (if (25 : Int) < (mny : Int) then (25 : Int) else (mny : Int)) < 2 ^ 62
        split <;> omega
      obtain ⟨N, hN, Nm⟩ : ∃ N : Nat, (if (25 : Int) < (mny : Int) then (25 : Int) else (mny : Int)).toNat = N ∧ N ≤ mny := by
        refine ⟨_, rfl, ?_⟩
        split <;> omega
      rw [hN]
      have nth0 : ∀ {α : Type} {xs : List α} {i : Nat} {x : α}, xs[i]? = some x → atI xs (0 + (i : Int)) = some x := fun {α xs i x} e => by
        rw [Int.zero_add]
        exact atI_nat e
      refine for_it (walk_range (lo := 0) (n := N)) (fun i σ H1 => ∃ v12, σ = [v0, v1, v2, some (.ref rd), some (.int s), some (.ref te), some (.ref t1), some (.int mny), v8, some (.ref tr), some (.ref ld), v11, v12] ∧ Same H H1) ⟨v12, rfl, Same.refl _⟩ (fun _ _ _ _ _ => trivial) ?_ ?_
      · rintro i x σ H1 H2 hi ⟨w12, rfl, sm⟩ ⟨rfl, rfl⟩
        obtain ⟨Rk, e1, e2⟩ := runL_step c R (s : Int) mny i (by omega)
        have ed1 := ed.imp (RRows.kn (Kn.of sm))
        obtain ⟨x1, ex1, tk, rfl, htk⟩ := ed1.of e1
        obtain ⟨x2, ex2, uk, rfl, huk⟩ := ed1.of e2
        have rk := rok Rk (List.mem_of_getElem? e1)
        have es : (s : Int) + (0 + (i : Int)) = (s : Int) + (i : Int) := by omega
        have ei : (0 + (i : Int)) + 1 = ((i + 1 : Nat) : Int) := by omega
        refine ⟨.ref rd, rfl, .ref te, rfl, .ref tr, rfl, .ref ld, rfl, .int (0 + (i : Int)), rfl, ld, md, _, _, rfl, rfl, SqL.of (sm _ _ hld), nth0 ex1, .int s, rfl, .int (0 + (i : Int)), rfl, _, _, rfl, rfl, .ref ld, rfl, .int (0 + (i : Int)), rfl, _, 1, rfl, rfl, ld, md, _, _, rfl, rfl, SqL.of (sm _ _ hld), (by rw [ei]; exact atI_nat ex2), ?_⟩
        refine ⟨rd, te, tr, tk, uk, c, Rk, (s : Int) + (i : Int), congrArg (fun z => [V.ref rd, V.ref te, V.ref tr, V.ref tk, V.int z, V.ref uk]) es, ir.same sm, ok, ie.same sm, ic.same sm, htk, rk, huk, fun H3 s3 => ⟨true, rfl, noOf rfl ?_⟩⟩
        exact ⟨_, rfl, sm.trans s3⟩
      · rintro σ H1 ⟨w12, rfl, sm⟩
        exact next _ H1 sm
    obtain ⟨tR, hR, pR⟩ : ∃ t, PSs (cxOf CX0 P w K mg base NsW "law" (defScope s_law) f cdv A outer sh H E) bodyR t ∧ ∀ (D : Ends) (v0 v1 v2 v8 v9 v10 v11 v12 : Option V) (s mny : Nat) (rd te t1 : Addr) (c : CourseL) (R : List (List Nat)) (H : Hp), mny ≤ 1000 → IsRaw H rd c.work → c.Ok → IsEv H te c.puts c.lifts → H t1 = some (.tup (txs R)) → RowsOk c.work R →
        (∀ v8 v9 v10 v11 v12 H', Same H H' → D.nx [v0, v1, v2, some (.ref rd), some (.int s), some (.ref te), some (.ref t1), some (.int mny), v8, v9, v10, v11, v12] H') → t D [v0, v1, v2, some (.ref rd), some (.int s), some (.ref te), some (.ref t1), some (.int mny), v8, v9, v10, v11, v12] H := by
      refine ⟨_, pss_cons (ps_set (i := 8) scLaw.nd rfl (.inl rfl) (pe_tup (pa_cons (pe_callTy call_list_of (by rfl) B.list (by decide +kernel) (pa_cons (pe_ix ix_tup (pv 5) pe_int (fun _ _ => rfl)) pa_nil)) (pa_cons (pe_callTy call_list_of (by rfl) B.list (by decide +kernel) (pa_cons (pe_ix ix_tup (pv 5) pe_int (fun _ _ => rfl)) pa_nil)) pa_nil))))
        (pss_cons (ps_par (i := 9) (j := 10) rfl scLaw.nd rfl rfl (by decide) rfl rfl (pa_cons (pe_call GC hr rfl gC FC.kp bC .nil pass0 (pa_cons (pv 3) (pa_cons (pv 8) pa_nil))) (pa_cons (pe_call GN hr rfl gN FN.kp bN .nil pass0 (pa_cons (pv 3) (pa_cons (pv 5) (pa_cons (pv 6) (pa_cons (pv 4) (pa_cons (pv 7) pa_nil)))))) pa_nil)) (by rfl))
        (pss_cons (ps_set (i := 11) scLaw.nd rfl (.inl rfl) (pe_callN GR hr rfl gR pR kR pass0 (pa_cons (pv 9) (pa_cons (pv 6) (pa_cons (pv 7) pa_nil))) (pk_cons (pv 4) pk_nil)))
        (pss_cons (ps_if (PW.pt (pw_or (pt_not (pt_val (pe_call GI hr rfl gI FI.kp bI .nil pass0 (pa_cons (pv 3) (pa_cons (pv 11) (pa_cons (pv 10) pa_nil)))))) (pw_or1 (pt_cmpR (op_neD hu64) (pv 8) (pv 5) (nomark _))))) (pss_one (ps_ret pe_bl)) pss_nil)
        (pss_cons (ps_expr (pe_bm0 PySem.F.plainAttrs_list PySem.F.slot_list_clear PySem.F.type_list_clear mt_clear (pv 11)))
        (pss_cons (ps_if (PW.pt (pw_or (pt_cmpR (op_neD hu64) (pe_callN GR hr rfl gR pR kR pass0 (pa_cons (pv 9) (pa_cons (pv 6) (pa_cons (pv 7) pa_nil))) (pk_cons (pv 4) pk_nil)) (pv 10) (nomark _))
          (pw_or1 (PW.pt (pw_and (pt_cmpR op_eq (pv 4) pe_int (nomark _)) (pw_and1 (pt_cmpR (op_neD hu64) (pe_call GR hr rfl gR pR bR v0 pass0 (pa_cons (pv 9) (pa_cons (pv 6) (pa_cons (pv 7) pa_nil)))) (pv 10) (nomark _)))))))) (pss_one (ps_ret pe_bl)) pss_nil)
        hL))))), ?_⟩
      intro D v0 v1 v2 v8 v9 v10 v11 v12 s mny rd te t1 c R H m1000 ir ok ie ht ro next
      obtain ⟨la, ll, mp, ml, hte, hla, eu, hll, ev⟩ := id ie
      have sev := shaped_ev ok.wk ok.ps c.lifts
      have rok := runL_ok ok ro (s : Int) mny
      have srun := shaped_runs (Rs := runL c R s mny) fun R' hR' => rows_low ok.wk (rok R' hR')
      refine ⟨.ref te, rfl, te, _, 0, _, rfl, rfl, SqT.of hte, atI_nat (j := 0) rfl, la, mp, rfl, .inl (SqL.of hla), fun la2 nla2 => ?_⟩
      have s1 := same_new (o := .lst mp) nla2
      have hla2 : upd H la2 (.lst mp) la2 = some (.lst mp) := upd_same
      generalize upd H la2 (.lst mp) = H1 at s1 hla2
      refine ⟨.ref te, rfl, te, _, 1, _, rfl, rfl, SqT.of (s1 _ _ hte), atI_nat (j := 1) rfl, ll, ml, rfl, .inl (SqL.of (s1 _ _ hll)), fun ll2 nll2 => ?_⟩
      have s2a := same_new (o := .lst ml) nll2
      have s2 := s1.trans s2a
      have hla2' := s2a _ _ hla2
      have hll2 : upd H1 ll2 (.lst ml) ll2 = some (.lst ml) := upd_same
      generalize upd H1 ll2 (.lst ml) = H2 at s2 hla2' hll2
      refine ⟨(by show 2 ≤ sizeLine; decide), fun th nth => ?_⟩
      have s3a := same_new (o := .tup [.ref la2, .ref ll2]) nth
      have s3 := s2.trans s3a
      have ieh : IsEv (upd H2 th (.tup [.ref la2, .ref ll2])) th c.puts c.lifts := ⟨la2, ll2, mp, ml, upd_same, s3a _ _ hla2', eu.imp (RPut.kn (Kn.of s3)), s3a _ _ hll2, ev.imp (RLift.kn (Kn.of s3))⟩
      generalize upd H2 th (.tup [.ref la2, .ref ll2]) = H3 at s3 ieh
      refine ⟨.ref rd, rfl, .ref th, rfl, rd, th, c, rfl, ir.same s3, ok, ieh, fun tr H4 s4 ic => ?_⟩
      have s34 := s3.trans s4
      refine ⟨.ref rd, rfl, .ref te, rfl, .ref t1, rfl, .int s, rfl, .int mny, rfl, rd, te, t1, c, R, s, mny, rfl, ir.same s34, ok, ie.same s34, s34 _ _ ht, ro, m1000, fun ld md H5 s5 nld hld ed => ⟨_, _, rfl, ?_⟩⟩
      have s35 := s34.trans s5
      have ic5 := ic.same s5
      refine ⟨.ref tr, rfl, .ref t1, rfl, .int mny, rfl, .int s, rfl, rfl, rfl, tr, t1, c, R, mny, (s : Int), rfl, ic5, ok, s35 _ _ ht, ro, m1000, fun lt mt H6 s6 nlt hlt et => ?_⟩
      have s36 := s35.trans s6
      refine ⟨.ref rd, rfl, .ref lt, rfl, .ref ld, rfl, rd, lt, ld, mt, md, c.work, runL c R s mny, rfl, ir.same s36, ok.wk, hlt, et, s6 _ _ hld, ed.imp (RRows.kn (Kn.of s6)), rok, fun H7 s7 => ⟨true, rfl, noOf rfl ?_⟩⟩
      have s37 := s36.trans s7
      refine ⟨.ref th, rfl, .ref te, rfl, _, _, dp_ev (ieh.same (s4.trans (s5.trans (s6.trans s7)))), dp_ev (ie.same s37), sev, sev, _, rfl, noOf (by rw [SeqAt.eqv_refl _ (SeqAt.canLay_of_shaped sev)]; rfl) ?_⟩
      have hlt7 := s7 _ _ hlt
      have nltH : H lt = none := none_back s35 nlt
      have nlt5 := nlt
      refine ⟨.ref lt, rfl, .inl ⟨rfl, _, SqL.of hlt7⟩, lt, mt, rfl, rfl, hlt7, ?_⟩
      have s8 : Same H (upd H7 lt (.lst [])) := same_put s37 nltH
      have s58 : Same H5 (upd H7 lt (.lst [])) := same_put (s6.trans s7) nlt5
      generalize upd H7 lt (.lst []) = H8 at s8 s58
      refine ⟨.ref tr, rfl, .ref t1, rfl, .int mny, rfl, .int s, rfl, rfl, rfl, tr, t1, c, R, mny, (s : Int), rfl, ic5.same s58, ok, s8 _ _ ht, ro, m1000, fun lt2 mt2 H9 s9 nlt2 hlt2 et2 => ?_⟩
      have s89 := s8.trans s9
      have s59 := s58.trans s9
      refine ⟨.ref ld, rfl, _, _, dp_runs hlt2 et2, dp_runs (s59 _ _ hld) (ed.imp (RRows.kn (Kn.of s59))), srun, srun, _, rfl, noOf (by rw [SeqAt.eqv_refl _ (SeqAt.canLay_of_shaped srun)]; rfl) ?_⟩
      refine ⟨.int s, rfl, rfl, _, rfl, ?_⟩
      by_cases s0 : (s : Int) = 0
      · refine yesOf (decide_eq_true (by rw [s0])) ?_
        refine ⟨.ref tr, rfl, .ref t1, rfl, .int mny, rfl, tr, t1, c, R, mny, 0, rfl, ic5.same s59, ok, s89 _ _ ht, ro, m1000, fun lt3 mt3 H10 s10 nlt3 hlt3 et3 => ?_⟩
        have s5x := s59.trans s10
        have s8x := s89.trans s10
        rw [← s0] at et3
        refine ⟨.ref ld, rfl, _, _, dp_runs hlt3 et3, dp_runs (s5x _ _ hld) (ed.imp (RRows.kn (Kn.of s5x))), srun, srun, _, rfl, noOf (by rw [SeqAt.eqv_refl _ (SeqAt.canLay_of_shaped srun)]; rfl) ?_⟩
        exact pL D _ _ _ _ _ _ s mny rd te t1 tr ld md c R H10 m1000 (ir.same s8x) ok (ie.same s8x) (ic5.same s5x) ro (s5x _ _ hld) (ed.imp (RRows.kn (Kn.of s5x))) fun v12 H' s' => next _ _ _ _ _ H' (s8x.trans s')
      · refine noOf (decide_eq_false (fun z => s0 (V.int.inj z))) ?_
        exact pL D _ _ _ _ _ _ s mny rd te t1 tr ld md c R H9 m1000 (ir.same s89) ok (ie.same s89) (ic5.same s59) ro (s59 _ _ hld) (ed.imp (RRows.kn (Kn.of s59))) fun v12 H' s' => next _ _ _ _ _ H' (s89.trans s')
    refine ⟨_, pss_cons (ps_set (i := 1) scLaw.nd rfl (.inl rfl) (pe_call GF hr rfl gF FF.kp bF .nil pass0 (pa_cons (pv 0) pa_nil)))
      (pss_cons (ps_for (passes_of rfl) rfl (pi_range1 (by rfl) B.rng (pa_cons pe_int pa_nil)) (pg_name (i := 2) scLaw.nd rfl (Or.inl rfl))
        (pss_cons (ps_set (i := 3) scLaw.nd rfl (.inl rfl) (pe_call GW hr rfl gW FW.kp bW .nil pass0 (pa_cons (pv 1) (pa_cons (pe_call GP hr rfl gP FP.kp bP .nil pass0 (pa_cons (pv 1) (pa_cons (pe_lst
          (pa_cons (pe_tup (pa_cons pe_int (pa_cons pe_int (pa_cons pe_int (pa_cons pe_int (pa_cons pe_int pa_nil)))))) (pa_cons (pe_tup (pa_cons pe_int (pa_cons pe_int (pa_cons pe_int (pa_cons pe_int (pa_cons pe_int pa_nil))))))
          (pa_cons (pe_tup (pa_cons pe_int (pa_cons pe_int (pa_cons pe_int (pa_cons pe_int (pa_cons pe_int pa_nil)))))) pa_nil)))) pa_nil))) pa_nil))))
        (pss_cons (ps_set (i := 4) scLaw.nd rfl (.inl rfl) (pe_call GP hr rfl gP FP.kp bP .nil pass0 (pa_cons (pv 1) (pa_cons (pe_lst (pa_cons pe_int (pa_cons pe_int (pa_cons pe_int (pa_cons pe_int (pa_cons pe_int
          (pa_cons (pe_op op_add (pe_op op_pow pe_int pe_int) (pe_call GD hr rfl gD FD.kp bD .nil pass0 (pa_cons (pv 1) (pa_cons pe_int pa_nil)))) (pa_cons (pe_op op_add (pe_op op_pow pe_int pe_int) (pe_call GD hr rfl gD FD.kp bD .nil pass0 (pa_cons (pv 1) (pa_cons pe_int pa_nil)))) pa_nil)))))))) pa_nil))))
        (pss_cons (ps_par (i := 5) (j := 6) rfl scLaw.nd rfl rfl (by decide) rfl rfl (pa_cons (pe_call GE hr rfl gE FE.kp bE .nil pass0 (pa_cons (pv 1) (pa_cons (pv 3) (pa_cons (pv 4) (pa_cons pe_int pa_nil))))) (pa_cons (pe_call GO hr rfl gO FO.kp bO .nil pass0 (pa_cons (pv 1) (pa_cons (pv 3) pa_nil))) pa_nil)) (by rfl))
        (pss_cons (ps_set (i := 7) scLaw.nd rfl (.inl rfl) (pe_ifExp (PW.pt (pw_and (pt_cmpR op_eq (pv 2) pe_int (nomark _)) (pw_and (pt_cmpR op_lt (pe_callB call_len (by rfl) B.len PySem.boot_len (pa_cons (pe_dget hu (pv 3) pe_str (fun _ _ => rfl)) pa_nil)) pe_int (nomark _))
          (pw_and1 (pt_cmpR op_eq (pe_call GD hr rfl gD FD.kp bD .nil pass0 (pa_cons (pv 1) (pa_cons pe_int pa_nil))) pe_int (nomark _)))))) pe_int (pe_call GD hr rfl gD FD.kp bD .nil pass0 (pa_cons (pv 1) (pa_cons pe_int pa_nil)))))
        hR)))))
      (pss_one (ps_ret pe_bl))), ?_⟩
    refine ⟨.ref a, rfl, a, ns, rfl, hS, few, fun H0 g ng fe0 sm0 => ?_⟩
    refine ⟨3, rfl, by decide, by decide, ?_⟩
    have e3 : (3 : Int).toNat = 3 := rfl
    rw [e3]
    refine for_it (walk_range (lo := 0) (n := 3)) (fun i σ H1 => ∃ v2 v3 v4 v5 v6 v7 v8 v9 v10 v11 v12 : Option V, σ = [some (.ref a), some (.ref g.f), v2, v3, v4, v5, v6, v7, v8, v9, v10, v11, v12] ∧ FeedAt K H1 g (2000 * i)) ⟨none, none, none, none, none, none, none, none, none, none, none, rfl, fe0⟩ (fun _ _ _ _ _ => trivial) ?_ ?_
    · rintro i x σ H1 H1' hi ⟨v2, v3, v4, v5, v6, v7, v8, v9, v10, v11, v12, rfl, fe1⟩ ⟨rfl, rfl⟩
      refine ⟨.ref g.f, rfl, .ref g.f, rfl, (by show 5 ≤ sizeLine; decide), fun ta nta => ⟨(by show 5 ≤ sizeLine; decide), fun tb ntb => ⟨(by show 5 ≤ sizeLine; decide), fun tc ntc => ⟨(by show 3 ≤ sizeLine; decide), fun lz nlz => ?_⟩⟩⟩⟩
      have sa := same_new (o := .tup [.int 2, .int 2, .int 3, .int 3, .int 3]) nta
      have sb := same_new (o := .tup [.int 3, .int 3, .int 5, .int 5, .int 6]) ntb
      have sc := same_new (o := .tup [.int 4, .int 6, .int 12, .int 8, .int 6]) ntc
      have sd := same_new (o := .lst [.ref ta, .ref tb, .ref tc]) nlz
      have hta := sd _ _ (sc _ _ (sb _ _ (upd_same (H := H1') (a := ta) (o := .tup [.int 2, .int 2, .int 3, .int 3, .int 3]))))
      have htb := sd _ _ (sc _ _ (upd_same (H := upd H1' ta (.tup [.int 2, .int 2, .int 3, .int 3, .int 3])) (a := tb) (o := .tup [.int 3, .int 3, .int 5, .int 5, .int 6])))
      have htc := sd _ _ (upd_same (H := upd (upd H1' ta (.tup [.int 2, .int 2, .int 3, .int 3, .int 3])) tb (.tup [.int 3, .int 3, .int 5, .int 5, .int 6])) (a := tc) (o := .tup [.int 4, .int 6, .int 12, .int 8, .int 6]))
      have fe2 := ((fe1.same sa).same sb).same (sc.trans sd)
      refine ⟨g, .ref lz, _, rfl, fe2, by omega,   .inr ⟨lz, _, rfl, SqL.of upd_same, (by show 0 < 3; decide), (by show 3 ≤ 1000; decide), fun y H3 hy fe3 kp3 => ?_⟩⟩
      obtain ⟨kv2, hk2⟩ := fe2.dict
      have nf : ∀ {q : Addr} {xs : List V}, _ = some (HO.tup xs) → q ≠ g.f := fun {q xs} (e : _ = some (HO.tup xs)) => ne_of (a := q) (b := g.f) e hk2 (by intro z; cases z)
      obtain ⟨tz, z0, z1, z2, z3, z4, rfl, htz, sz⟩ : ∃ (tz : Addr) (z0 z1 z2 z3 z4 : Nat), y = .ref tz ∧ H3 tz = some (.tup [.int z0, .int z1, .int z2, .int z3, .int z4]) ∧ Sizes z0 z1 z2 z3 z4 := by
        simp only [List.mem_cons, List.mem_nil_iff, or_false] at hy
        rcases hy with rfl | rfl | rfl
        · exact ⟨ta, 2, 2, 3, 3, 3, rfl, kp3 _ _ (nf hta) hta, ⟨by decide, by decide, by decide, by decide, by decide⟩⟩
        · exact ⟨tb, 3, 3, 5, 5, 6, rfl, kp3 _ _ (nf htb) htb, ⟨by decide, by decide, by decide, by decide, by decide⟩⟩
        · exact ⟨tc, 4, 6, 12, 8, 6, rfl, kp3 _ _ (nf htc) htc, ⟨by decide, by decide, by decide, by decide, by decide⟩⟩
      refine ⟨g, tz, z0, z1, z2, z3, z4, 2000 * i + 1, rfl, htz, sz, fe3, by omega, fun k rd H4 ok nrd ir fe4 kp4 => ?_⟩
      have rdf : rd ≠ g.f := fe3.ne nrd
      -- since
      refine ⟨.ref g.f, rfl, 10, 6, rfl, rfl, ⟨by decide, by decide, by decide⟩, .ref g.f, rfl, g, 60, _, rfl, fe4, by omega, by decide, by decide, fun d1 H5 d10 d11 fe5 kp5 => ⟨_, _, rfl, rfl, 10, 59, rfl, rfl, ⟨by decide, by decide, by decide⟩, .ref g.f, rfl, g, 60, _, rfl, fe5, by omega, by decide, by decide, fun d2 H6 d20 d21 fe6 kp6 => ⟨_, _, rfl, rfl, (by show 7 ≤ sizeLine; decide), fun ls nls => ?_⟩⟩⟩
      refine ⟨g, .ref ls, _, rfl, fe6.same (same_new nls), by omega,   .inr ⟨ls, _, rfl, SqL.of upd_same, (by show 0 < 7; decide), (by show 7 ≤ 1000; decide), fun y H7 hy fe7 kp7 => ?_⟩⟩
      have p6 : (0 : Int) ≤ (10 : Int) ^ (6 : Int).toNat := by decide
      have p59 : (0 : Int) ≤ (10 : Int) ^ (59 : Int).toNat := by decide +kernel
      obtain ⟨s, rfl⟩ : ∃ s : Nat, y = .int (s : Int) := by
        simp only [List.mem_cons, List.mem_nil_iff, or_false] at hy
        rcases hy with rfl | rfl | rfl | rfl | rfl | rfl | rfl
        · exact ⟨0, rfl⟩
        · exact ⟨0, rfl⟩
        · exact ⟨1, rfl⟩
        · exact ⟨5, rfl⟩
        · exact ⟨59, rfl⟩
        · exact ⟨((10 : Int) ^ (6 : Int).toNat + d1).toNat, congrArg V.int (Int.toNat_of_nonneg (by omega)).symm⟩
        · exact ⟨((10 : Int) ^ (59 : Int).toNat + d2).toNat, congrArg V.int (Int.toNat_of_nonneg (by omega)).symm⟩
      have kp47 := (kp5.trans kp6).trans ((Kept.of (same_new (o := _) nls)).trans kp7)
      have ir7 := ir.kd rdf kp47 (Kd.kept fe4 kp47)
      -- puts and lifts, rows
      refine ⟨.ref g.f, rfl, .ref rd, rfl, .int s, rfl, g, rd, k, s, 20, _, rfl, ir7, ok, rdf, by decide, fe7, by omega, fun ps lfs te H8 oks okl few12 nte ie fe8 kp8 => ?_⟩
      have ir8 := ir7.kd rdf kp8 (Kd.kept fe7 kp8)
      refine ⟨.ref g.f, rfl, .ref rd, rfl, g, rd, k, _, rfl, ir8, ok, rdf, fe8, by omega, fun R t1 H9 ro nt1 ht1 fe9 kp9 => ⟨_, _, rfl, ?_⟩⟩
      have kd9 := Kd.kept fe8 kp9
      have ir9 := ir8.kd rdf kp9 kd9
      have ie9 := ie.kd kd9
      have cok : CourseL.Ok ⟨k, ps, lfs⟩ := ⟨ok, oks, okl, few12⟩
      obtain ⟨lb, lp, lq, l0, m0, qs, hrd, hlb, eb, hlp, ep, hlq, el⟩ := id ir9
      have hraw : H9 rd = some (.dK (rawKvs k.signs lb lp lq)) := hrd
      have keep : ∀ {H' : Hp}, Kept g.f H9 H' → IsRaw H' rd k ∧ IsEv H' te ps lfs ∧ H' t1 = some (.tup (txs R)) := fun {H'} kp => ⟨ir9.kd rdf kp (Kd.kept fe9 kp), ie9.kd (Kd.kept fe9 kp), Kd.kept fe9 kp _ _ (by intro kvs z; cases z) ht1⟩
      refine ⟨.int (0 + (i : Int)), rfl, rfl, _, rfl, ?_⟩
      by_cases c1 : (0 + (i : Int)) = 2
      · refine yesOf (decide_eq_true (by rw [c1])) ?_
        refine ⟨.ref rd, rfl, rd, _, rfl, get_places hraw, .ref lq, k.places.length, rfl, .inl ⟨_, SqL.of hlq, el.1.symm⟩, _, 8, rfl, rfl, _, rfl, ?_⟩
        by_cases c2 : (k.places.length : Int) < 8
        · refine yesOf (decide_eq_true c2) ?_
          refine ⟨.ref g.f, rfl, g, 4, _, rfl, fe9, by omega, by decide, by decide, fun d H10 d0 dl fe10 kp10 => ⟨rfl, _, rfl, ?_⟩⟩
          by_cases c3 : d = 0
          · refine yesOf (decide_eq_true (by rw [c3])) ?_
            obtain ⟨k1, k2, k3⟩ := keep kp10
            exact pR _ _ _ _ _ _ _ _ _ s 1000 rd te t1 ⟨k, ps, lfs⟩ R H10 (by decide) k1 cok k2 k3 ro fun _ _ _ _ _ H' s' => ⟨_, _, _, _, _, _, _, _, _, _, _, rfl, (fe10.same s').le (by omega)⟩
          · refine noOf (decide_eq_false (fun z => c3 (V.int.inj z))) ?_
            refine ⟨.ref g.f, rfl, g, 26, _, rfl, fe10, by omega, by decide, by decide, fun e H11 e0 el2 fe11 kp11 => ?_⟩
            obtain ⟨mny, rfl⟩ := Int.eq_ofNat_of_zero_le e0
            obtain ⟨k1, k2, k3⟩ := keep (kp10.trans kp11)
            exact pR _ _ _ _ _ _ _ _ _ s mny rd te t1 ⟨k, ps, lfs⟩ R H11 (by omega) k1 cok k2 k3 ro fun _ _ _ _ _ H' s' => ⟨_, _, _, _, _, _, _, _, _, _, _, rfl, (fe11.same s').le (by omega)⟩
        · refine noOf (decide_eq_false c2) ?_
          refine ⟨.ref g.f, rfl, g, 26, _, rfl, fe9, by omega, by decide, by decide, fun e H11 e0 el2 fe11 kp11 => ?_⟩
          obtain ⟨mny, rfl⟩ := Int.eq_ofNat_of_zero_le e0
          obtain ⟨k1, k2, k3⟩ := keep kp11
          exact pR _ _ _ _ _ _ _ _ _ s mny rd te t1 ⟨k, ps, lfs⟩ R H11 (by omega) k1 cok k2 k3 ro fun _ _ _ _ _ H' s' => ⟨_, _, _, _, _, _, _, _, _, _, _, rfl, (fe11.same s').le (by omega)⟩
      · refine noOf (decide_eq_false (fun z => c1 (V.int.inj z))) ?_
        refine ⟨.ref g.f, rfl, g, 26, _, rfl, fe9, by omega, by decide, by decide, fun e H11 e0 el2 fe11 kp11 => ?_⟩
        obtain ⟨mny, rfl⟩ := Int.eq_ofNat_of_zero_le e0
        obtain ⟨k1, k2, k3⟩ := keep kp11
        exact pR _ _ _ _ _ _ _ _ _ s mny rd te t1 ⟨k, ps, lfs⟩ R H11 (by omega) k1 cok k2 k3 ro fun _ _ _ _ _ H' s' => ⟨_, _, _, _, _, _, _, _, _, _, _, rfl, (fe11.same s').le (by omega)⟩
    · rintro σ H1 ⟨v2, v3, v4, v5, v6, v7, v8, v9, v10, v11, v12, rfl, fe1⟩
      exact q H1
end
end K23
set_option Elab.async false
set_option linter.all false
set_option maxRecDepth 100000
set_option maxHeartbeats 4000000
set_option exponentiation.threshold 400
/-! What the top has written. -/
namespace K23
open PySem PySem.Spec PyProof.Rows L2 Bp
/-- a def of the text stands at the top -/
structure Is (K : PySem.W.Frag) (x : Str) (st : Stmt) : Prop where
  ex : ∃ (f : Addr) (fd : FuncData), PySem.W.nsIn K mainGlobals x = some (some (.ref f)) ∧ Fun K x x st f fd
theorem is_mk {K : PySem.W.Frag} {x : Str} {st : Stmt} {f : Addr} {oc : Value} {od an : Option Addr} {osl : Array (Option Value)} {kV doc pm cdv ct : Value} (a : PySem.W.nsIn K mainGlobals x = some (some (.ref f)))
    (l : K.lookup f = some ⟨oc, od, .func (PySem.W.fnOf x x (defArgs st) (defBody st) (defScope st) .none kV doc pm an cdv ct), osl⟩) (c : PySem.W.codeIn K cdv x = true) (k : PySem.W.keepIn K (.ref f) = true) : Is K x st := ⟨⟨f, _, a, fun_mk l c k⟩⟩
/-- .. one with a keyword that has a worth -/
structure IsK (K : PySem.W.Frag) (x : Str) (st : Stmt) (kw : Str) (v : V) : Prop where
  ex : ∃ (f : Addr) (fd : FuncData), PySem.W.nsIn K mainGlobals x = some (some (.ref f)) ∧ FD K x x st [] [(kw, v)] f fd
theorem fd_kw {K : PySem.W.Frag} {x qual kw : Str} {st : Stmt} {v : V} {u : Value} {f D : Addr} {oc : Value} {od an : Option Addr} {osl : Array (Option Value)} {doc pm cdv ct : Value} (r : RelV v u)
    (l : K.lookup f = some ⟨oc, od, .func (PySem.W.fnOf x qual (defArgs st) (defBody st) (defScope st) .none (.ref D) doc pm an cdv ct), osl⟩) (n : PySem.W.nsIn K D kw = some (some u)) (c : PySem.W.codeIn K cdv qual = true) (k : PySem.W.keepIn K (.ref f) = true) :
    FD K x qual st [] [(kw, v)] f (PySem.W.fnOf x qual (defArgs st) (defBody st) (defScope st) .none (.ref D) doc pm an cdv ct) :=
  ⟨⟨oc, od, .none, .ref D, doc, pm, an, cdv, ct, osl, rfl, l, c, .inl ⟨rfl, rfl⟩, .inr ⟨D, rfl, fun q hq => by
    rw [List.mem_singleton.mp hq]
    exact ⟨u, n, r⟩⟩⟩, k⟩
theorem isK_int {K : PySem.W.Frag} {x kw : Str} {st : Stmt} {z : Int} {t : Tok} {f D : Addr} {oc : Value} {od an : Option Addr} {osl : Array (Option Value)} {doc pm cdv ct : Value} (a : PySem.W.nsIn K mainGlobals x = some (some (.ref f)))
    (l : K.lookup f = some ⟨oc, od, .func (PySem.W.fnOf x x (defArgs st) (defBody st) (defScope st) .none (.ref D) doc pm an cdv ct), osl⟩) (n : PySem.W.nsIn K D kw = some (some (.int z t))) (c : PySem.W.codeIn K cdv x = true) (k : PySem.W.keepIn K (.ref f) = true) : IsK K x st kw (.int z) := ⟨⟨f, _, a, fd_kw ⟨t, rfl⟩ l n c k⟩⟩
/-- a method -/
structure IsM (K : PySem.W.Frag) (C : Addr) (m qual : Str) (st : Stmt) : Prop where
  ex : ∃ (f : Addr) (fd : FuncData), Meth K C m f ∧ Fun K m qual st f fd
theorem isM_mk {K : PySem.W.Frag} {C : Addr} {m qual : Str} {st : Stmt} {f : Addr} {oc : Value} {od an : Option Addr} {osl : Array (Option Value)} {kV doc pm cdv ct : Value} (a : PySem.W.findIn K (.ref C) m = some (some (.ref f))) (i : PySem.W.isFn K (.ref f) = true)
    (l : K.lookup f = some ⟨oc, od, .func (PySem.W.fnOf m qual (defArgs st) (defBody st) (defScope st) .none kV doc pm an cdv ct), osl⟩) (c : PySem.W.codeIn K cdv qual = true) (k : PySem.W.keepIn K (.ref f) = true) : IsM K C m qual st := ⟨⟨f, _, ⟨a, i, k⟩, fun_mk l c k⟩⟩
/-- a class of the text -/
structure IsC (K : PySem.W.Frag) (C : Addr) : Prop where
  cl : Cls K C
  isi : IsiTxt K C
  makes : PySem.W.makesIn K C = true
  kp : PySem.W.keepIn K (.ref C) = true
theorem isC_mk {K : PySem.W.Frag} {C : Addr} (pg : PySem.W.plainGet K C Str.empty = true) (hd : PySem.W.hasDictIn K C = true) (po : PySem.W.plainOver K C = true) (sa : PySem.W.findIn K (.ref C) "__setattr__" = some (some (.builtin "object.__setattr__"))) (mk : PySem.W.makesIn K C = true) (kc : PySem.W.keepIn K (.ref C) = true)
    (ha : PySem.W.findIn K (.ref C) "__class__" = some (some (.builtin "object.__class__"))) (hn : PySem.W.specialIn K (.builtin "object.__class__") "__get__" = some (some (.builtin "getset_descriptor.__get__"))) (htk : PySem.W.takesIn K (.builtin "object.__class__") = some true)
    (hm : PySem.W.mroIn K C (.type "object") = some true) : IsC K C := ⟨⟨pg, hd, po, sa⟩, ⟨ha, hn, htk, hm, if_pos (beq_self_eq_true _)⟩, mk, kc⟩
/-- Band -/
structure BandF (K : PySem.W.Frag) : Prop where
  ex : ∃ (C fI : Addr) (fdI : FuncData), PySem.W.nsIn K mainGlobals "Band" = some (some (.ref C)) ∧ IsC K C ∧ NoAttr K C "_name" ∧ NoAttr K C "_long" ∧ NoAttr K C "_pace" ∧ PySem.W.findIn K (.ref C) "__init__" = some (some (.ref fI)) ∧ PySem.W.isFn K (.ref fI) = true ∧
    FD K "__init__" "Band.__init__" s_Band_init [] [("pace", .int 0)] fI fdI ∧ IsM K C "called" "Band.called" s_Band_called ∧ IsM K C "long" "Band.long" s_Band_long ∧ IsM K C "pace" "Band.pace" s_Band_pace
theorem bandF_mk {K : PySem.W.Frag} {C fI D : Addr} {oc : Value} {od an : Option Addr} {osl : Array (Option Value)} {doc pm cdv ct : Value} {t : Tok} (aC : PySem.W.nsIn K mainGlobals "Band" = some (some (.ref C))) (iC : IsC K C) (n1 : PySem.W.findIn K (.ref C) "_name" = some none) (n2 : PySem.W.findIn K (.ref C) "_long" = some none) (n3 : PySem.W.findIn K (.ref C) "_pace" = some none)
    (a : PySem.W.findIn K (.ref C) "__init__" = some (some (.ref fI))) (i : PySem.W.isFn K (.ref fI) = true) (l : K.lookup fI = some ⟨oc, od, .func (PySem.W.fnOf "__init__" "Band.__init__" (defArgs s_Band_init) (defBody s_Band_init) (defScope s_Band_init) .none (.ref D) doc pm an cdv ct), osl⟩)
    (n : PySem.W.nsIn K D "pace" = some (some (.int 0 t))) (c : PySem.W.codeIn K cdv "Band.__init__" = true) (k : PySem.W.keepIn K (.ref fI) = true) (m1 : IsM K C "called" "Band.called" s_Band_called) (m2 : IsM K C "long" "Band.long" s_Band_long) (m3 : IsM K C "pace" "Band.pace" s_Band_pace) : BandF K :=
  ⟨⟨C, fI, _, aC, iC, n1, n2, n3, a, i, fd_kw ⟨t, rfl⟩ l n c k, m1, m2, m3⟩⟩
/-- Press -/
structure PressF (K : PySem.W.Frag) : Prop where
  ex : ∃ (C fI : Addr) (fdI : FuncData), PySem.W.nsIn K mainGlobals "Press" = some (some (.ref C)) ∧ IsC K C ∧ (NoAttr K C "_above" ∧ NoAttr K C "_below" ∧ NoAttr K C "_table" ∧ NoAttr K C "_rhythm") ∧ PySem.W.findIn K (.ref C) "__init__" = some (some (.ref fI)) ∧ PySem.W.isFn K (.ref fI) = true ∧
    FD K "__init__" "Press.__init__" s_Press_init [] [("rhythm", .str "x")] fI fdI ∧ IsM K C "above" "Press.above" s_Press_above ∧ IsM K C "below" "Press.below" s_Press_below ∧ IsM K C "table" "Press.table" s_Press_table ∧ IsM K C "rhythm" "Press.rhythm" s_Press_rhythm
theorem pressF_mk {K : PySem.W.Frag} {C fI D : Addr} {oc : Value} {od an : Option Addr} {osl : Array (Option Value)} {doc pm cdv ct : Value} {t : Tok} (aC : PySem.W.nsIn K mainGlobals "Press" = some (some (.ref C))) (iC : IsC K C)
    (n1 : PySem.W.findIn K (.ref C) "_above" = some none) (n2 : PySem.W.findIn K (.ref C) "_below" = some none) (n3 : PySem.W.findIn K (.ref C) "_table" = some none) (n4 : PySem.W.findIn K (.ref C) "_rhythm" = some none)
    (a : PySem.W.findIn K (.ref C) "__init__" = some (some (.ref fI))) (i : PySem.W.isFn K (.ref fI) = true) (l : K.lookup fI = some ⟨oc, od, .func (PySem.W.fnOf "__init__" "Press.__init__" (defArgs s_Press_init) (defBody s_Press_init) (defScope s_Press_init) .none (.ref D) doc pm an cdv ct), osl⟩)
    (n : PySem.W.nsIn K D "rhythm" = some (some (.str "x" t))) (c : PySem.W.codeIn K cdv "Press.__init__" = true) (k : PySem.W.keepIn K (.ref fI) = true) (m1 : IsM K C "above" "Press.above" s_Press_above) (m2 : IsM K C "below" "Press.below" s_Press_below) (m3 : IsM K C "table" "Press.table" s_Press_table) (m4 : IsM K C "rhythm" "Press.rhythm" s_Press_rhythm) : PressF K :=
  ⟨⟨C, fI, _, aC, iC, ⟨n1, n2, n3, n4⟩, a, i, fd_kw ⟨t, rfl⟩ l n c k, m1, m2, m3, m4⟩⟩
/-- Work -/
structure WorkF (K : PySem.W.Frag) : Prop where
  ex : ∃ (C fI : Addr) (fdI : FuncData) (dv : V), PySem.W.nsIn K mainGlobals "Work" = some (some (.ref C)) ∧ IsC K C ∧ (NoAttr K C "_signs" ∧ NoAttr K C "_bands" ∧ NoAttr K C "_presses" ∧ NoAttr K C "_places" ∧ NoAttr K C "_numbers") ∧ PySem.W.findIn K (.ref C) "__init__" = some (some (.ref fI)) ∧ PySem.W.isFn K (.ref fI) = true ∧
    FD K "__init__" "Work.__init__" s_Work_init [dv] [] fI fdI ∧ IsM K C "signs" "Work.signs" s_Work_signs ∧ IsM K C "bands" "Work.bands" s_Work_bands ∧ IsM K C "presses" "Work.presses" s_Work_presses ∧ IsM K C "places" "Work.places" s_Work_places ∧ IsM K C "has_place" "Work.has_place" s_Work_has_place ∧ IsM K C "place_in" "Work.place_in" s_Work_place_in ∧ IsM K C "has_press" "Work.has_press" s_Work_has_press
theorem workF_mk {K : PySem.W.Frag} {C fI T E : Addr} {oc ocT kV : Value} {od an odT : Option Addr} {osl oslT : Array (Option Value)} {doc pm cdv ct : Value} {nT : Nat} (aC : PySem.W.nsIn K mainGlobals "Work" = some (some (.ref C))) (iC : IsC K C)
    (n1 : PySem.W.findIn K (.ref C) "_signs" = some none) (n2 : PySem.W.findIn K (.ref C) "_bands" = some none) (n3 : PySem.W.findIn K (.ref C) "_presses" = some none) (n4 : PySem.W.findIn K (.ref C) "_places" = some none) (n5 : PySem.W.findIn K (.ref C) "_numbers" = some none)
    (a : PySem.W.findIn K (.ref C) "__init__" = some (some (.ref fI))) (i : PySem.W.isFn K (.ref fI) = true) (l : K.lookup fI = some ⟨oc, od, .func (PySem.W.fnOf "__init__" "Work.__init__" (defArgs s_Work_init) (defBody s_Work_init) (defScope s_Work_init) (.ref T) kV doc pm an cdv ct), osl⟩)
    (d : K.lookup T = some ⟨ocT, odT, .seq #[.ref E] nT, oslT⟩) (c : PySem.W.codeIn K cdv "Work.__init__" = true) (k : PySem.W.keepIn K (.ref fI) = true)
    (m1 : IsM K C "signs" "Work.signs" s_Work_signs) (m2 : IsM K C "bands" "Work.bands" s_Work_bands) (m3 : IsM K C "presses" "Work.presses" s_Work_presses) (m4 : IsM K C "places" "Work.places" s_Work_places) (m5 : IsM K C "has_place" "Work.has_place" s_Work_has_place) (m6 : IsM K C "place_in" "Work.place_in" s_Work_place_in) (m7 : IsM K C "has_press" "Work.has_press" s_Work_has_press) : WorkF K :=
  ⟨⟨C, fI, _, .ref E, aC, iC, ⟨n1, n2, n3, n4, n5⟩, a, i, ⟨⟨oc, od, .ref T, kV, doc, pm, an, cdv, ct, osl, rfl, l, c, .inr ⟨(by intro h; cases h), T, _, [.ref E], nT, rfl, d, rfl, .cons rfl .nil⟩, .inl rfl⟩, k⟩, m1, m2, m3, m4, m5, m6, m7⟩⟩
theorem fd_kw2 {K : PySem.W.Frag} {x qual k1 k2 : Str} {st : Stmt} {v1 v2 : V} {u1 u2 : Value} {f D : Addr} {oc : Value} {od an : Option Addr} {osl : Array (Option Value)} {doc pm cdv ct : Value} (r1 : RelV v1 u1) (r2 : RelV v2 u2)
    (l : K.lookup f = some ⟨oc, od, .func (PySem.W.fnOf x qual (defArgs st) (defBody st) (defScope st) .none (.ref D) doc pm an cdv ct), osl⟩) (n1 : PySem.W.nsIn K D k1 = some (some u1)) (n2 : PySem.W.nsIn K D k2 = some (some u2)) (c : PySem.W.codeIn K cdv qual = true) (k : PySem.W.keepIn K (.ref f) = true) :
    FD K x qual st [] [(k1, v1), (k2, v2)] f (PySem.W.fnOf x qual (defArgs st) (defBody st) (defScope st) .none (.ref D) doc pm an cdv ct) :=
  ⟨⟨oc, od, .none, .ref D, doc, pm, an, cdv, ct, osl, rfl, l, c, .inl ⟨rfl, rfl⟩, .inr ⟨D, rfl, fun q hq => by
    rcases List.mem_cons.mp hq with rfl | hq
    · exact ⟨u1, n1, r1⟩
    · rw [List.mem_singleton.mp hq]
      exact ⟨u2, n2, r2⟩⟩⟩, k⟩
theorem kb_Course {K : PySem.W.Frag} {f : Addr} {fd : FuncData} {v1 v2 : V} (F : FD K "__init__" "Course.__init__" s_Course_init [] [("puts", v1), ("lifts", v2)] f fd) : ∃ mv : List Value, KBn K fd ["self", "work", "puts", "lifts"] 2 ["puts", "lifts"] (fun us ws => us ++ ws) (fun vs zs => vs ++ zs) := by
  refine F.kbinds0 2 ["puts", "lifts"] [] (fun us _ ws => us ++ ws) (by intro h; cases h) (fun q h => by cases h) (fun a _ c => a.append c) ?_
  intro D doc pm an cdv ct us mv ws hu hm hw
  match us, mv, ws, hu, hm, hw with
  | [_, _], [], [_, _], _, _, _ => exact rfl
theorem kb_run {K : PySem.W.Frag} {f : Addr} {fd : FuncData} (F : FD K "run" "run" s_run [] [("begin", .int 0)] f fd) : ∃ mv : List Value, KBn K fd ["course", "rows", "beats", "begin"] 3 ["begin"] (fun us ws => us ++ ws) (fun vs zs => vs ++ zs) := by
  refine F.kbinds0 3 ["begin"] [] (fun us _ ws => us ++ ws) (by intro h; cases h) (fun q h => by cases h) (fun a _ c => a.append c) ?_
  intro D doc pm an cdv ct us mv ws hu hm hw
  match us, mv, ws, hu, hm, hw with
  | [_, _, _], [], [_], _, _, _ => exact rfl
theorem b_run {K : PySem.W.Frag} {f : Addr} {fd : FuncData} (F : FD K "run" "run" s_run [] [("begin", .int 0)] f fd) : ∃ d0 : Value, Vals [V.int 0] [d0] ∧ Binds K fd ["course", "rows", "beats", "begin"] [d0] := by
  obtain ⟨ds, hv, hb⟩ := F.binds0 (ps := ["course", "rows", "beats", "begin"]) 3 (by intro h; cases h) rfl (fun D doc pm an cdv ct us ks hu hk => by
    match us, ks, hu, hk with
    | [_, _, _], [_], _, _ => exact ⟨_, _, _, _, _, _, rfl, rfl, rfl⟩)
  match ds, hv, hb with
  | [d], hv, hb => exact ⟨d, hv, hb⟩
/-- Course -/
structure CourseF (K : PySem.W.Frag) : Prop where
  ex : ∃ (C fI E1 E2 : Addr) (fdI : FuncData), PySem.W.nsIn K mainGlobals "Course" = some (some (.ref C)) ∧ IsC K C ∧ (NoAttr K C "_work" ∧ NoAttr K C "_puts" ∧ NoAttr K C "_lifts") ∧ PySem.W.findIn K (.ref C) "__init__" = some (some (.ref fI)) ∧ PySem.W.isFn K (.ref fI) = true ∧
    FD K "__init__" "Course.__init__" s_Course_init [] [("puts", .ref E1), ("lifts", .ref E2)] fI fdI ∧ IsM K C "work" "Course.work" s_Course_work ∧ IsM K C "works" "Course.works" s_Course_works ∧ IsM K C "_is_up" "Course._is_up" s_Course_is_up ∧ IsM K C "laid" "Course.laid" s_Course_laid
theorem courseF_mk {K : PySem.W.Frag} {C fI D E1 E2 : Addr} {oc : Value} {od an : Option Addr} {osl : Array (Option Value)} {doc pm cdv ct : Value} (aC : PySem.W.nsIn K mainGlobals "Course" = some (some (.ref C))) (iC : IsC K C) (n1 : PySem.W.findIn K (.ref C) "_work" = some none) (n2 : PySem.W.findIn K (.ref C) "_puts" = some none) (n3 : PySem.W.findIn K (.ref C) "_lifts" = some none)
    (a : PySem.W.findIn K (.ref C) "__init__" = some (some (.ref fI))) (i : PySem.W.isFn K (.ref fI) = true) (l : K.lookup fI = some ⟨oc, od, .func (PySem.W.fnOf "__init__" "Course.__init__" (defArgs s_Course_init) (defBody s_Course_init) (defScope s_Course_init) .none (.ref D) doc pm an cdv ct), osl⟩)
    (na : PySem.W.nsIn K D "puts" = some (some (.ref E1))) (nb : PySem.W.nsIn K D "lifts" = some (some (.ref E2))) (c : PySem.W.codeIn K cdv "Course.__init__" = true) (k : PySem.W.keepIn K (.ref fI) = true) (m1 : IsM K C "work" "Course.work" s_Course_work) (m2 : IsM K C "works" "Course.works" s_Course_works) (m3 : IsM K C "_is_up" "Course._is_up" s_Course_is_up) (m4 : IsM K C "laid" "Course.laid" s_Course_laid) : CourseF K :=
  ⟨⟨C, fI, E1, E2, _, aC, iC, ⟨n1, n2, n3⟩, a, i, fd_kw2 rfl rfl l na nb c k, m1, m2, m3, m4⟩⟩
/-- the names -/
structure NamesF (K : PySem.W.Frag) : Prop where
  isi : PySem.W.nsIn K mainGlobals "isinstance" = some none
  int : PySem.W.nsIn K mainGlobals "int" = some none
  bool : PySem.W.nsIn K mainGlobals "bool" = some none
  str : PySem.W.nsIn K mainGlobals "str" = some none
  list : PySem.W.nsIn K mainGlobals "list" = some none
  tuple : PySem.W.nsIn K mainGlobals "tuple" = some none
  all : PySem.W.nsIn K mainGlobals "all" = some none
  len : PySem.W.nsIn K mainGlobals "len" = some none
  rng : PySem.W.nsIn K mainGlobals "range" = some none
  sum : PySem.W.nsIn K mainGlobals "sum" = some none
  set : PySem.W.nsIn K mainGlobals "set" = some none
  enu : PySem.W.nsIn K mainGlobals "enumerate" = some none
  abs : PySem.W.nsIn K mainGlobals "abs" = some none
  min : PySem.W.nsIn K mainGlobals "min" = some none
  max : PySem.W.nsIn K mainGlobals "max" = some none
  sorted : PySem.W.nsIn K mainGlobals "sorted" = some none
  zip : PySem.W.nsIn K mainGlobals "zip" = some none
  repr : PySem.W.nsIn K mainGlobals "repr" = some none
theorem defOf {P : Program} {w : World} {K : PySem.W.Frag} {mg : Str → Option Value} {base : Heap} {CX : CXT} {k : Nat} {x : Str} {st : Stmt} {ps : List Str} {sp : Sp} {f : Addr} {fd : FuncData} (F : Fun K x x st f fd) (b : Binds K fd ps []) (g : mg x = some (.ref f)) (G : FnOk P w K mg base CX k f fd ps sp) : Def P w K mg base CX k x st ps sp := ⟨⟨f, fd, F, b, g, G⟩⟩
end K23
set_option Elab.async false
set_option linter.all false
set_option maxRecDepth 100000
set_option maxHeartbeats 4000000
set_option exponentiation.threshold 400
/-! All together. -/
namespace K23
open PySem PySem.Spec PyProof.Rows L2 Bp
theorem all_mk {l : PySem.W.OpenLaw} {w : World} {K : PySem.W.Frag} {h : Heap} {mg : Str → Option Value} {fa : Addr} {t1 t2 t3 t4 t5 t6 t7 t8 t9 : Tok} (X : K.In h) (G : h.Ns mainGlobals mg) (hfa : mg "law" = some (.ref fa))
    (N : NamesF K) (zF : PySem.W.nsIn K mainGlobals "_FASTEST" = some (some (.int (10 ^ 12) t1))) (zA : PySem.W.nsIn K mainGlobals "_LETTERS" = some (some (.str "abcdefghijklmnopqrstuvwxyz" t2))) (zL : PySem.W.nsIn K mainGlobals "_LONGEST_BAND" = some (some (.int 12 t3))) (zR : PySem.W.nsIn K mainGlobals "_MOST_BEATS_OF_RHYTHM" = some (some (.int 6 t4))) (zB : PySem.W.nsIn K mainGlobals "_MOST_BANDS" = some (some (.int 6 t5))) (zP : PySem.W.nsIn K mainGlobals "_MOST_PLACES" = some (some (.int 40 t6))) (zQ : PySem.W.nsIn K mainGlobals "_MOST_PRESSES" = some (some (.int 8 t7))) (zD : PySem.W.nsIn K mainGlobals "_MOST_DEEDS" = some (some (.int 12 t8))) (zT : PySem.W.nsIn K mainGlobals "LAST_BEAT" = some (some (.int (10 ^ 60) t9))) 
    (iB : BandF K) (iP : PressF K) (iW : WorkF K) (iC : CourseF K) (jRun : IsK K "run" s_run "begin" (.int 0))
    (jWhole : Is K "is_whole" s_is_whole) (jWithin : Is K "is_within" s_is_within) (jListed : Is K "is_listed" s_is_listed) (jLetters : Is K "are_letters" s_are_letters) (jName : Is K "is_name" s_is_name) (jSigns : Is K "are_signs" s_are_signs) (jSign : Is K "is_sign" s_is_sign) (jPlace : Is K "is_place" s_is_place) (jTextFor : Is K "is_text_for" s_is_text_for) (jNeed : Is K "need_rows" s_need_rows) (jRowsOf : Is K "rows_of" s_rows_of) (jPressesAt : Is K "presses_at" s_presses_at) (jGone : Is K "gone_round" s_gone_round) (jPrinted : Is K "printed" s_printed) (jSgPrinted : Is K "signs_printed" s_signs_printed) (jBeatDone : Is K "beat_done" s_beat_done) (jNextRows : Is K "next_rows" s_next_rows) (jLong : Is K "is_long" s_is_long) (jPace : Is K "is_pace" s_is_pace) (jSideN : Is K "is_side_number" s_is_side_number) (jSide : Is K "is_side" s_is_side) (jTable : Is K "is_table" s_is_table) (jRhythm : Is K "is_rhythm" s_is_rhythm) (jBands : Is K "are_bands" s_are_bands) (jPlacesOf : Is K "places_of" s_places_of) (jPF : Is K "is_press_for" s_is_press_for) (jPrs : Is K "are_presses" s_are_presses) (jPutBeat : Is K "is_put_beat" s_is_put_beat) (jLiftBeat : Is K "is_lift_beat" s_is_lift_beat) (jLiftWord : Is K "is_lift_word" s_is_lift_word) (jPut : Is K "is_put" s_is_put) (jLift : Is K "is_lift" s_is_lift) (jLFeed : Is K "_law_feed" s_law_feed) (jLDraw : Is K "_law_draw" s_law_draw) (jLPick : Is K "_law_pick" s_law_pick) (jLNames : Is K "_law_names" s_law_names) (jLSigns : Is K "_law_signs" s_law_signs) (jLTable : Is K "_law_table" s_law_table) (jLRaw : Is K "_law_raw" s_law_raw) (jLMade : Is K "_law_made" s_law_made) (jLRows : Is K "_law_rows" s_law_rows) (jLEvents : Is K "_law_events" s_law_events) (jLLifted : Is K "_law_lifted" s_law_lifted) (jLBeat : Is K "_law_beat" s_law_beat) (jLRuns : Is K "_law_runs" s_law_runs) (jLCourse : Is K "_law_course" s_law_course) (jLWorking : Is K "_law_working" s_law_working) (jLAre : Is K "_law_are_rows" s_law_are_rows) (jLIsRun : Is K "_law_is_run" s_law_is_run) (jLStep : Is K "_law_step_right" s_law_step_right) (jLaw : Is K "law" s_law) :
    ∃ fd : FuncData, (∀ (s : Shared) (v : Value), BindsTo s fd ⟨[v], []⟩ [("_law_script", v)]) ∧ ∀ base : Heap, K.In base → base.Ns mainGlobals mg → FnG l.prog w K mg base CX0 25 fa fd ["_law_script"] (spLaw K) := by
  obtain ⟨CB, fIB, fdIB, aCB, cB, nB1, nB2, nB3, aIB, iIB, FIB, mB1, mB2, mB3⟩ := iB.ex
  obtain ⟨CP, fIP, fdIP, aCP, cP, ⟨nP1, nP2, nP3, nP4⟩, aIP, iIP, FIP, mP1, mP2, mP3, mP4⟩ := iP.ex
  obtain ⟨CW, fIW, fdIW, dvW, aCW, cW, ⟨nW1, nW2, nW3, nW4, nW5⟩, aIW, iIW, FIW, mW1, mW2, mW3, mW4, mW5, mW6, mW7⟩ := iW.ex
  obtain ⟨CC, fIC, E1, E2, fdIC, aCC, cC, ⟨nC1, nC2, nC3⟩, aIC, iIC, FIC, mC1, mC2, mC3, mC4⟩ := iC.ex
  have of : ∀ {x : Str} {v : Value}, PySem.W.nsIn K mainGlobals x = some (some v) → mg x = some v := fun {x v} e => PySem.W.mg_of X G e
  have no : ∀ {x : Str}, PySem.W.nsIn K mainGlobals x = some none → mg x = none := fun {x} e => PySem.W.mg_none_of X G e
  have B : Blt mg := ⟨no N.isi, no N.int, no N.bool, no N.str, no N.list, no N.tuple, no N.all, no N.len, no N.rng, no N.sum, no N.set, no N.enu, ⟨_, of zF⟩, ⟨_, of zA⟩⟩
  have gl : ∃ t, mg "_LONGEST_BAND" = some (.int 12 t) := ⟨_, of zL⟩
  have gT : ∃ t, mg "LAST_BEAT" = some (.int (10 ^ 60) t) := ⟨_, of zT⟩
  have TB : BandTxt K mg CB := ⟨cB.cl, nB1, nB2, nB3, of aCB, gl⟩
  have TP : PressTxt K mg CP := ⟨cP.cl, nP1, nP2, nP3, nP4, of aCP⟩
  have TW : WorkTxt K mg CW := ⟨cW.cl, nW1, nW2, nW3, nW4, nW5, of aCW⟩
  have TC : CourseTxt K mg CC := ⟨cC.cl, nC1, nC2, nC3, of aCC⟩
  obtain ⟨f1, fd1, a1, F1⟩ := jWhole.ex
  obtain ⟨f2, fd2, a2, F2⟩ := jWithin.ex
  obtain ⟨f3, fd3, a3, F3⟩ := jListed.ex
  obtain ⟨f4, fd4, a4, F4⟩ := jLetters.ex
  obtain ⟨f5, fd5, a5, F5⟩ := jName.ex
  obtain ⟨f6, fd6, a6, F6⟩ := jSigns.ex
  obtain ⟨f7, fd7, a7, F7⟩ := jSign.ex
  obtain ⟨f8, fd8, a8, F8⟩ := jPlace.ex
  obtain ⟨f9, fd9, a9, F9⟩ := jTextFor.ex
  obtain ⟨f10, fd10, a10, F10⟩ := jNeed.ex
  obtain ⟨f11, fd11, a11, F11⟩ := jRowsOf.ex
  obtain ⟨f12, fd12, a12, F12⟩ := jPressesAt.ex
  obtain ⟨f13, fd13, a13, F13⟩ := jGone.ex
  obtain ⟨f14, fd14, a14, F14⟩ := jPrinted.ex
  obtain ⟨f15, fd15, a15, F15⟩ := jSgPrinted.ex
  obtain ⟨f16, fd16, a16, F16⟩ := jBeatDone.ex
  obtain ⟨f17, fd17, a17, F17⟩ := jNextRows.ex
  obtain ⟨f18, fd18, a18, F18⟩ := jLong.ex
  obtain ⟨f19, fd19, a19, F19⟩ := jPace.ex
  obtain ⟨f20, fd20, a20, F20⟩ := jSideN.ex
  obtain ⟨f21, fd21, a21, F21⟩ := jSide.ex
  obtain ⟨f22, fd22, a22, F22⟩ := jTable.ex
  obtain ⟨f23, fd23, a23, F23⟩ := jRhythm.ex
  obtain ⟨f24, fd24, a24, F24⟩ := jBands.ex
  obtain ⟨f25, fd25, a25, F25⟩ := jPlacesOf.ex
  obtain ⟨f26, fd26, a26, F26⟩ := jPF.ex
  obtain ⟨f27, fd27, a27, F27⟩ := jPrs.ex
  obtain ⟨f28, fd28, a28, F28⟩ := jPutBeat.ex
  obtain ⟨f29, fd29, a29, F29⟩ := jLiftBeat.ex
  obtain ⟨f30, fd30, a30, F30⟩ := jLiftWord.ex
  obtain ⟨f31, fd31, a31, F31⟩ := jPut.ex
  obtain ⟨f32, fd32, a32, F32⟩ := jLift.ex
  obtain ⟨f33, fd33, a33, F33⟩ := jLFeed.ex
  obtain ⟨f34, fd34, a34, F34⟩ := jLDraw.ex
  obtain ⟨f35, fd35, a35, F35⟩ := jLPick.ex
  obtain ⟨f36, fd36, a36, F36⟩ := jLNames.ex
  obtain ⟨f37, fd37, a37, F37⟩ := jLSigns.ex
  obtain ⟨f38, fd38, a38, F38⟩ := jLTable.ex
  obtain ⟨f39, fd39, a39, F39⟩ := jLRaw.ex
  obtain ⟨f40, fd40, a40, F40⟩ := jLMade.ex
  obtain ⟨f41, fd41, a41, F41⟩ := jLRows.ex
  obtain ⟨f42, fd42, a42, F42⟩ := jLEvents.ex
  obtain ⟨f43, fd43, a43, F43⟩ := jLLifted.ex
  obtain ⟨f44, fd44, a44, F44⟩ := jLBeat.ex
  obtain ⟨f45, fd45, a45, F45⟩ := jLRuns.ex
  obtain ⟨f46, fd46, a46, F46⟩ := jLCourse.ex
  obtain ⟨f47, fd47, a47, F47⟩ := jLWorking.ex
  obtain ⟨f48, fd48, a48, F48⟩ := jLAre.ex
  obtain ⟨f49, fd49, a49, F49⟩ := jLIsRun.ex
  obtain ⟨f50, fd50, a50, F50⟩ := jLStep.ex
  obtain ⟨f51, fd51, a51, F51⟩ := jLaw.ex
  obtain ⟨fR, fdR, aR, FR⟩ := jRun.ex
  obtain ⟨e1, ed1, M1, E1⟩ := mB1.ex
  obtain ⟨e2, ed2, M2, E2⟩ := mB2.ex
  obtain ⟨e3, ed3, M3, E3⟩ := mB3.ex
  obtain ⟨e4, ed4, M4, E4⟩ := mP1.ex
  obtain ⟨e5, ed5, M5, E5⟩ := mP2.ex
  obtain ⟨e6, ed6, M6, E6⟩ := mP3.ex
  obtain ⟨e7, ed7, M7, E7⟩ := mP4.ex
  obtain ⟨e8, ed8, M8, E8⟩ := mW1.ex
  obtain ⟨e9, ed9, M9, E9⟩ := mW2.ex
  obtain ⟨e10, ed10, M10, E10⟩ := mW3.ex
  obtain ⟨e11, ed11, M11, E11⟩ := mW4.ex
  obtain ⟨e12, ed12, M12, E12⟩ := mW5.ex
  obtain ⟨e13, ed13, M13, E13⟩ := mW6.ex
  obtain ⟨e14, ed14, M14, E14⟩ := mW7.ex
  obtain ⟨e15, ed15, M15, E15⟩ := mC1.ex
  obtain ⟨e16, ed16, M16, E16⟩ := mC2.ex
  obtain ⟨e17, ed17, M17, E17⟩ := mC3.ex
  obtain ⟨e18, ed18, M18, E18⟩ := mC4.ex
  have e := hfa.symm.trans (of a51)
  cases e
  have b1 := F1.binds (ps := ["thing"]) fun _ _ _ _ _ _ us hl => match us, hl with | [_], _ => rfl
  have b2 := F2.binds (ps := ["thing", "least", "most"]) fun _ _ _ _ _ _ us hl => match us, hl with | [_, _, _], _ => rfl
  have b3 := F3.binds (ps := ["thing"]) fun _ _ _ _ _ _ us hl => match us, hl with | [_], _ => rfl
  have b4 := F4.binds (ps := ["thing"]) fun _ _ _ _ _ _ us hl => match us, hl with | [_], _ => rfl
  have b5 := F5.binds (ps := ["thing"]) fun _ _ _ _ _ _ us hl => match us, hl with | [_], _ => rfl
  have b6 := F6.binds (ps := ["thing"]) fun _ _ _ _ _ _ us hl => match us, hl with | [_], _ => rfl
  have b7 := F7.binds (ps := ["signs", "thing"]) fun _ _ _ _ _ _ us hl => match us, hl with | [_, _], _ => rfl
  have b8 := F8.binds (ps := ["thing"]) fun _ _ _ _ _ _ us hl => match us, hl with | [_], _ => rfl
  have b9 := F9.binds (ps := ["band", "signs", "thing"]) fun _ _ _ _ _ _ us hl => match us, hl with | [_, _, _], _ => rfl
  have b10 := F10.binds (ps := ["work", "rows"]) fun _ _ _ _ _ _ us hl => match us, hl with | [_, _], _ => rfl
  have b11 := F11.binds (ps := ["work", "signs"]) fun _ _ _ _ _ _ us hl => match us, hl with | [_, _], _ => rfl
  have b12 := F12.binds (ps := ["course", "beat"]) fun _ _ _ _ _ _ us hl => match us, hl with | [_, _], _ => rfl
  have b13 := F13.binds (ps := ["text", "many"]) fun _ _ _ _ _ _ us hl => match us, hl with | [_, _], _ => rfl
  have b14 := F14.binds (ps := ["work", "press", "signs"]) fun _ _ _ _ _ _ us hl => match us, hl with | [_, _, _], _ => rfl
  have b15 := F15.binds (ps := ["work", "rows", "numbers"]) fun _ _ _ _ _ _ us hl => match us, hl with | [_, _, _], _ => rfl
  have b16 := F16.binds (ps := ["course", "rows", "beat"]) fun _ _ _ _ _ _ us hl => match us, hl with | [_, _, _], _ => rfl
  have b17 := F17.binds (ps := ["course", "rows", "beat"]) fun _ _ _ _ _ _ us hl => match us, hl with | [_, _, _], _ => rfl
  have b18 := F18.binds (ps := ["thing"]) fun _ _ _ _ _ _ us hl => match us, hl with | [_], _ => rfl
  have b19 := F19.binds (ps := ["thing"]) fun _ _ _ _ _ _ us hl => match us, hl with | [_], _ => rfl
  have b20 := F20.binds (ps := ["thing"]) fun _ _ _ _ _ _ us hl => match us, hl with | [_], _ => rfl
  have b21 := F21.binds (ps := ["thing"]) fun _ _ _ _ _ _ us hl => match us, hl with | [_], _ => rfl
  have b22 := F22.binds (ps := ["thing"]) fun _ _ _ _ _ _ us hl => match us, hl with | [_], _ => rfl
  have b23 := F23.binds (ps := ["thing"]) fun _ _ _ _ _ _ us hl => match us, hl with | [_], _ => rfl
  have b24 := F24.binds (ps := ["thing"]) fun _ _ _ _ _ _ us hl => match us, hl with | [_], _ => rfl
  have b25 := F25.binds (ps := ["bands"]) fun _ _ _ _ _ _ us hl => match us, hl with | [_], _ => rfl
  have b26 := F26.binds (ps := ["thing", "signs", "places"]) fun _ _ _ _ _ _ us hl => match us, hl with | [_, _, _], _ => rfl
  have b27 := F27.binds (ps := ["thing", "signs", "places"]) fun _ _ _ _ _ _ us hl => match us, hl with | [_, _, _], _ => rfl
  have b28 := F28.binds (ps := ["thing"]) fun _ _ _ _ _ _ us hl => match us, hl with | [_], _ => rfl
  have b29 := F29.binds (ps := ["thing"]) fun _ _ _ _ _ _ us hl => match us, hl with | [_], _ => rfl
  have b30 := F30.binds (ps := ["thing"]) fun _ _ _ _ _ _ us hl => match us, hl with | [_], _ => rfl
  have b31 := F31.binds (ps := ["work", "thing"]) fun _ _ _ _ _ _ us hl => match us, hl with | [_, _], _ => rfl
  have b32 := F32.binds (ps := ["work", "thing"]) fun _ _ _ _ _ _ us hl => match us, hl with | [_, _], _ => rfl
  have b33 := F33.binds (ps := ["_law_script"]) fun _ _ _ _ _ _ us hl => match us, hl with | [_], _ => rfl
  have b34 := F34.binds (ps := ["_law_feed_here", "_law_many"]) fun _ _ _ _ _ _ us hl => match us, hl with | [_, _], _ => rfl
  have b35 := F35.binds (ps := ["_law_feed_here", "_law_some"]) fun _ _ _ _ _ _ us hl => match us, hl with | [_, _], _ => rfl
  have b36 := F36.binds (ps := ["_law_feed_here", "_law_many"]) fun _ _ _ _ _ _ us hl => match us, hl with | [_, _], _ => rfl
  have b37 := F37.binds (ps := ["_law_feed_here", "_law_many"]) fun _ _ _ _ _ _ us hl => match us, hl with | [_, _], _ => rfl
  have b38 := F38.binds (ps := ["_law_feed_here", "_law_signs_here"]) fun _ _ _ _ _ _ us hl => match us, hl with | [_, _], _ => rfl
  have b39 := F39.binds (ps := ["_law_feed_here", "_law_sizes"]) fun _ _ _ _ _ _ us hl => match us, hl with | [_, _], _ => rfl
  have b40 := F40.binds (ps := ["_law_raw_here"]) fun _ _ _ _ _ _ us hl => match us, hl with | [_], _ => rfl
  have b41 := F41.binds (ps := ["_law_feed_here", "_law_raw_here"]) fun _ _ _ _ _ _ us hl => match us, hl with | [_, _], _ => rfl
  have b42 := F42.binds (ps := ["_law_feed_here", "_law_raw_here", "_law_since", "_law_most"]) fun _ _ _ _ _ _ us hl => match us, hl with | [_, _, _, _], _ => rfl
  have b43 := F43.binds (ps := ["_law_raising", "_law_number", "_law_beat_here"]) fun _ _ _ _ _ _ us hl => match us, hl with | [_, _, _], _ => rfl
  have b44 := F44.binds (ps := ["_law_raw_here", "_law_events_here", "_law_rows_here", "_law_beat_here"]) fun _ _ _ _ _ _ us hl => match us, hl with | [_, _, _, _], _ => rfl
  have b45 := F45.binds (ps := ["_law_raw_here", "_law_events_here", "_law_rows_here", "_law_since", "_law_many"]) fun _ _ _ _ _ _ us hl => match us, hl with | [_, _, _, _, _], _ => rfl
  have b46 := F46.binds (ps := ["_law_raw_here", "_law_events_here"]) fun _ _ _ _ _ _ us hl => match us, hl with | [_, _], _ => rfl
  have b47 := F47.binds (ps := ["_law_raw_here", "_law_events_here", "_law_beat_here"]) fun _ _ _ _ _ _ us hl => match us, hl with | [_, _, _], _ => rfl
  have b48 := F48.binds (ps := ["_law_raw_here", "_law_thing"]) fun _ _ _ _ _ _ us hl => match us, hl with | [_, _], _ => rfl
  have b49 := F49.binds (ps := ["_law_raw_here", "_law_told", "_law_due"]) fun _ _ _ _ _ _ us hl => match us, hl with | [_, _, _], _ => rfl
  have b50 := F50.binds (ps := ["_law_raw_here", "_law_events_here", "_law_track", "_law_rows_here", "_law_beat_here", "_law_due"]) fun _ _ _ _ _ _ us hl => match us, hl with | [_, _, _, _, _, _], _ => rfl
  have c1 := E1.binds (ps := ["self"]) fun _ _ _ _ _ _ us hl => match us, hl with | [_], _ => rfl
  have c2 := E2.binds (ps := ["self"]) fun _ _ _ _ _ _ us hl => match us, hl with | [_], _ => rfl
  have c3 := E3.binds (ps := ["self"]) fun _ _ _ _ _ _ us hl => match us, hl with | [_], _ => rfl
  have c4 := E4.binds (ps := ["self"]) fun _ _ _ _ _ _ us hl => match us, hl with | [_], _ => rfl
  have c5 := E5.binds (ps := ["self"]) fun _ _ _ _ _ _ us hl => match us, hl with | [_], _ => rfl
  have c6 := E6.binds (ps := ["self"]) fun _ _ _ _ _ _ us hl => match us, hl with | [_], _ => rfl
  have c7 := E7.binds (ps := ["self"]) fun _ _ _ _ _ _ us hl => match us, hl with | [_], _ => rfl
  have c8 := E8.binds (ps := ["self"]) fun _ _ _ _ _ _ us hl => match us, hl with | [_], _ => rfl
  have c9 := E9.binds (ps := ["self"]) fun _ _ _ _ _ _ us hl => match us, hl with | [_], _ => rfl
  have c10 := E10.binds (ps := ["self"]) fun _ _ _ _ _ _ us hl => match us, hl with | [_], _ => rfl
  have c11 := E11.binds (ps := ["self"]) fun _ _ _ _ _ _ us hl => match us, hl with | [_], _ => rfl
  have c12 := E12.binds (ps := ["self", "thing"]) fun _ _ _ _ _ _ us hl => match us, hl with | [_, _], _ => rfl
  have c13 := E13.binds (ps := ["self", "place"]) fun _ _ _ _ _ _ us hl => match us, hl with | [_, _], _ => rfl
  have c14 := E14.binds (ps := ["self", "thing"]) fun _ _ _ _ _ _ us hl => match us, hl with | [_, _], _ => rfl
  have c15 := E15.binds (ps := ["self"]) fun _ _ _ _ _ _ us hl => match us, hl with | [_], _ => rfl
  have c16 := E16.binds (ps := ["self", "press", "beat"]) fun _ _ _ _ _ _ us hl => match us, hl with | [_, _, _], _ => rfl
  have c17 := E17.binds (ps := ["self", "press", "beat"]) fun _ _ _ _ _ _ us hl => match us, hl with | [_, _, _], _ => rfl
  have c18 := E18.binds (ps := ["self", "beat"]) fun _ _ _ _ _ _ us hl => match us, hl with | [_, _], _ => rfl
  obtain ⟨mvB, kB⟩ := kb_Band FIB
  obtain ⟨mvP, kP⟩ := kb_Press FIP
  have bW := b_Work FIW
  obtain ⟨mvC, kC⟩ := kb_Course FIC
  obtain ⟨mvR, kR⟩ := kb_run FR
  obtain ⟨d0, v0, bR⟩ := b_run FR
  obtain ⟨oc, od, kV, doc, pm, an, cdv, ct, osl, rfl, lk, hcd⟩ := id F51.ex
  refine ⟨PySem.W.fnOf "law" "law" (defArgs s_law) (defBody s_law) (defScope s_law) .none kV doc pm an cdv ct, fun s v => .of_eq rfl, fun base _ _ => ?_⟩
  have WholeG : ∀ k, FnOk l.prog w K mg base CX0 (k + 1) f1 fd1 ["thing"] sp_is_whole := fun k => ok_is_whole B F1
  have Whole : ∀ k, Def l.prog w K mg base CX0 (k + 1) "is_whole" s_is_whole ["thing"] sp_is_whole := fun k => defOf F1 b1 (of a1) (WholeG k)
  have WithinG : ∀ k, FnOk l.prog w K mg base CX0 (k + 2) f2 fd2 ["thing", "least", "most"] sp_is_within := fun k => ok_is_within (Whole (k + 0)) F2
  have Within : ∀ k, Def l.prog w K mg base CX0 (k + 2) "is_within" s_is_within ["thing", "least", "most"] sp_is_within := fun k => defOf F2 b2 (of a2) (WithinG k)
  have ListedG : ∀ k, FnOk l.prog w K mg base CX0 (k + 1) f3 fd3 ["thing"] sp_is_listed := fun k => ok_is_listed B F3
  have Listed : ∀ k, Def l.prog w K mg base CX0 (k + 1) "is_listed" s_is_listed ["thing"] sp_is_listed := fun k => defOf F3 b3 (of a3) (ListedG k)
  have LettersG : ∀ k, FnOk l.prog w K mg base CX0 (k + 1) f4 fd4 ["thing"] sp_are_letters := fun k => ok_are_letters B F4
  have Letters : ∀ k, Def l.prog w K mg base CX0 (k + 1) "are_letters" s_are_letters ["thing"] sp_are_letters := fun k => defOf F4 b4 (of a4) (LettersG k)
  have NameG : ∀ k, FnOk l.prog w K mg base CX0 (k + 2) f5 fd5 ["thing"] sp_is_name := fun k => ok_is_name B (Letters (k + 0)) F5
  have Name : ∀ k, Def l.prog w K mg base CX0 (k + 2) "is_name" s_is_name ["thing"] sp_is_name := fun k => defOf F5 b5 (of a5) (NameG k)
  have SignsG : ∀ k, FnOk l.prog w K mg base CX0 (k + 2) f6 fd6 ["thing"] sp_are_signs := fun k => ok_are_signs B (Letters (k + 0)) F6
  have Signs : ∀ k, Def l.prog w K mg base CX0 (k + 2) "are_signs" s_are_signs ["thing"] sp_are_signs := fun k => defOf F6 b6 (of a6) (SignsG k)
  have SignG : ∀ k, FnOk l.prog w K mg base CX0 (k + 1) f7 fd7 ["signs", "thing"] sp_is_sign := fun k => ok_is_sign B F7
  have Sign : ∀ k, Def l.prog w K mg base CX0 (k + 1) "is_sign" s_is_sign ["signs", "thing"] sp_is_sign := fun k => defOf F7 b7 (of a7) (SignG k)
  have PlaceG : ∀ k, FnOk l.prog w K mg base CX0 (k + 3) f8 fd8 ["thing"] sp_is_place := fun k => ok_is_place B (Name (k + 0)) (Whole (k + 1)) F8
  have Place : ∀ k, Def l.prog w K mg base CX0 (k + 3) "is_place" s_is_place ["thing"] sp_is_place := fun k => defOf F8 b8 (of a8) (PlaceG k)
  have LongG : ∀ k, FnOk l.prog w K mg base CX0 (k + 3) f18 fd18 ["thing"] sp_is_long := fun k => ok_is_long gl (Within (k + 0)) F18
  have Long : ∀ k, Def l.prog w K mg base CX0 (k + 3) "is_long" s_is_long ["thing"] sp_is_long := fun k => defOf F18 b18 (of a18) (LongG k)
  have PaceG : ∀ k, FnOk l.prog w K mg base CX0 (k + 3) f19 fd19 ["thing"] sp_is_pace := fun k => ok_is_pace B (Within (k + 0)) F19
  have Pace : ∀ k, Def l.prog w K mg base CX0 (k + 3) "is_pace" s_is_pace ["thing"] sp_is_pace := fun k => defOf F19 b19 (of a19) (PaceG k)
  have SideNG : ∀ k, FnOk l.prog w K mg base CX0 (k + 3) f20 fd20 ["thing"] sp_is_side_number := fun k => ok_is_side_number gl (Within (k + 0)) F20
  have SideN : ∀ k, Def l.prog w K mg base CX0 (k + 3) "is_side_number" s_is_side_number ["thing"] sp_is_side_number := fun k => defOf F20 b20 (of a20) (SideNG k)
  have SideG : ∀ k, FnOk l.prog w K mg base CX0 (k + 4) f21 fd21 ["thing"] sp_is_side := fun k => ok_is_side (SideN (k + 0)) (Place (k + 0)) F21
  have Side : ∀ k, Def l.prog w K mg base CX0 (k + 4) "is_side" s_is_side ["thing"] sp_is_side := fun k => defOf F21 b21 (of a21) (SideG k)
  have TableG : ∀ k, FnOk l.prog w K mg base CX0 (k + 2) f22 fd22 ["thing"] sp_is_table := fun k => ok_is_table B (Letters (k + 0)) F22
  have Table : ∀ k, Def l.prog w K mg base CX0 (k + 2) "is_table" s_is_table ["thing"] sp_is_table := fun k => defOf F22 b22 (of a22) (TableG k)
  have RhythmG : ∀ k, FnOk l.prog w K mg base CX0 (k + 1) f23 fd23 ["thing"] sp_is_rhythm := fun k => ok_is_rhythm B ⟨_, of zR⟩ F23
  have Rhythm : ∀ k, Def l.prog w K mg base CX0 (k + 1) "is_rhythm" s_is_rhythm ["thing"] sp_is_rhythm := fun k => defOf F23 b23 (of a23) (RhythmG k)
  have IB : ∀ k, FnOk l.prog w K mg base CX0 (k + 4) fIB fdIB ["self", "name", "long", "pace"] (sp_Band_init CB) := fun k => ok_Band_init TB (Name (k + 1)) (Long (k + 0)) (Pace (k + 0)) FIB
  have IP : ∀ k, FnOk l.prog w K mg base CX0 (k + 5) fIP fdIP ["self", "above", "below", "table", "rhythm"] (sp_Press_init CP) := fun k => ok_Press_init TP (Side (k + 0)) (Table (k + 2)) (Rhythm (k + 3)) FIP
  have BD : ∀ k, BandDefs l.prog w K mg base CB (k + 1) := fun k => ⟨TB, cB.isi, ⟨_, _, M1, c1, ok_Band_called TB E1⟩, ⟨_, _, M2, c2, ok_Band_long TB E2⟩, ⟨_, _, M3, c3, ok_Band_pace TB E3⟩⟩
  have PD : ∀ k, PressDefs l.prog w K mg base CP (k + 1) := fun k => ⟨TP, cP.isi, ⟨_, _, M4, c4, ok_Press_above TP E4⟩, ⟨_, _, M5, c5, ok_Press_below TP E5⟩, ⟨_, _, M6, c6, ok_Press_table TP E6⟩, ⟨_, _, M7, c7, ok_Press_rhythm TP E7⟩⟩
  have BandsG : ∀ k, FnOk l.prog w K mg base CX0 (k + 2) f24 fd24 ["thing"] (sp_are_bands CB) := fun k => ok_are_bands B (BD (k + 0)) ⟨_, of zB⟩ ⟨_, of zP⟩ (Listed (k + 0)) F24
  have Bands : ∀ k, Def l.prog w K mg base CX0 (k + 2) "are_bands" s_are_bands ["thing"] (sp_are_bands CB) := fun k => defOf F24 b24 (of a24) (BandsG k)
  have PlacesOfG : ∀ k, FnOk l.prog w K mg base CX0 (k + 2) f25 fd25 ["bands"] (sp_places_of CB) := fun k => ok_places_of B (BD (k + 0)) F25
  have PlacesOf : ∀ k, Def l.prog w K mg base CX0 (k + 2) "places_of" s_places_of ["bands"] (sp_places_of CB) := fun k => defOf F25 b25 (of a25) (PlacesOfG k)
  have PFG : ∀ k, FnOk l.prog w K mg base CX0 (k + 2) f26 fd26 ["thing", "signs", "places"] (sp_is_press_for CP) := fun k => ok_is_press_for B (PD (k + 0)) F26
  have PF : ∀ k, Def l.prog w K mg base CX0 (k + 2) "is_press_for" s_is_press_for ["thing", "signs", "places"] (sp_is_press_for CP) := fun k => defOf F26 b26 (of a26) (PFG k)
  have PrsG : ∀ k, FnOk l.prog w K mg base CX0 (k + 3) f27 fd27 ["thing", "signs", "places"] (sp_are_presses CP) := fun k => ok_are_presses B ⟨_, of zQ⟩ (Listed (k + 1)) (PF (k + 0)) F27
  have Prs : ∀ k, Def l.prog w K mg base CX0 (k + 3) "are_presses" s_are_presses ["thing", "signs", "places"] (sp_are_presses CP) := fun k => defOf F27 b27 (of a27) (PrsG k)
  have IW : ∀ k, FnOk l.prog w K mg base CX0 (k + 4) fIW fdIW ["self", "signs", "bands", "presses"] (sp_Work_init CW CB CP) := fun k => ok_Work_init B TW (Signs (k + 1)) (Bands (k + 1)) (Prs (k + 0)) (PlacesOf (k + 1)) FIW
  have HP : ∀ k, FnOk l.prog w K mg base CX0 (k + 4) e12 ed12 ["self", "thing"] (sp_has_place CW CB CP) := fun k => ok_has_place TW (Place (k + 0)) E12
  have WD : ∀ k, WorkDefs l.prog w K mg base CW CB CP (k + 5) := fun k => ⟨TW, cW.isi, ⟨_, _, M8, c8, ok_Work_signs TW E8⟩, ⟨_, _, M9, c9, ok_Work_bands B TW E9⟩, ⟨_, _, M10, c10, ok_Work_presses B TW E10⟩, ⟨_, _, M11, c11, ok_Work_places B TW E11⟩, ⟨_, _, M12, c12, ok_has_place TW (Place (k + 1)) E12⟩, ⟨_, _, M13, c13, ok_place_in TW M12 c12 (HP (k + 0)) E13⟩, ⟨_, _, M14, c14, ok_has_press B TW (Within (k + 2)) E14⟩⟩
  have PutBeatG : ∀ k, FnOk l.prog w K mg base CX0 (k + 3) f28 fd28 ["thing"] sp_is_put_beat := fun k => ok_is_put_beat gT (Within (k + 0)) F28
  have PutBeat : ∀ k, Def l.prog w K mg base CX0 (k + 3) "is_put_beat" s_is_put_beat ["thing"] sp_is_put_beat := fun k => defOf F28 b28 (of a28) (PutBeatG k)
  have LiftBeatG : ∀ k, FnOk l.prog w K mg base CX0 (k + 3) f29 fd29 ["thing"] sp_is_lift_beat := fun k => ok_is_lift_beat gT (Within (k + 0)) F29
  have LiftBeat : ∀ k, Def l.prog w K mg base CX0 (k + 3) "is_lift_beat" s_is_lift_beat ["thing"] sp_is_lift_beat := fun k => defOf F29 b29 (of a29) (LiftBeatG k)
  have LiftWordG : ∀ k, FnOk l.prog w K mg base CX0 (k + 1) f30 fd30 ["thing"] sp_is_lift_word := fun k => ok_is_lift_word F30
  have LiftWord : ∀ k, Def l.prog w K mg base CX0 (k + 1) "is_lift_word" s_is_lift_word ["thing"] sp_is_lift_word := fun k => defOf F30 b30 (of a30) (LiftWordG k)
  have PutG : ∀ k, FnOk l.prog w K mg base CX0 (k + 6) f31 fd31 ["work", "thing"] (sp_is_put CW CB CP) := fun k => ok_is_put B (WD (k + 0)) (PutBeat (k + 2)) (Sign (k + 4)) F31
  have Put : ∀ k, Def l.prog w K mg base CX0 (k + 6) "is_put" s_is_put ["work", "thing"] (sp_is_put CW CB CP) := fun k => defOf F31 b31 (of a31) (PutG k)
  have LiftG : ∀ k, FnOk l.prog w K mg base CX0 (k + 6) f32 fd32 ["work", "thing"] (sp_is_lift CW CB CP) := fun k => ok_is_lift B (WD (k + 0)) (LiftBeat (k + 2)) (LiftWord (k + 4)) F32
  have Lift : ∀ k, Def l.prog w K mg base CX0 (k + 6) "is_lift" s_is_lift ["work", "thing"] (sp_is_lift CW CB CP) := fun k => defOf F32 b32 (of a32) (LiftG k)
  have IC : ∀ k, FnOk l.prog w K mg base CX0 (k + 7) fIC fdIC ["self", "work", "puts", "lifts"] (sp_Course_init CC CW CB CP) := fun k => ok_Course_init B TC (WD (k + 1)) ⟨_, of zD⟩ (Listed (k + 5)) (Put (k + 0)) (Lift (k + 0)) FIC
  have IU : ∀ k, FnOk l.prog w K mg base CX0 (k + 1) e17 ed17 ["self", "press", "beat"] (sp_is_up CC CW CB CP) := fun k => ok_is_up TC E17
  have CD : ∀ k, CourseDefs l.prog w K mg base CC CW CB CP (k + 6) := fun k => ⟨TC, ⟨_, _, M15, c15, ok_Course_work TC E15⟩, ⟨_, _, M16, c16, ok_works B TC (WD (k + 0)) (PD (k + 4)) M17 c17 (IU (k + 4)) E16⟩, ⟨_, _, M18, c18, ok_laid TC (WD (k + 0)) E18⟩⟩
  have TextForG : ∀ k, FnOk l.prog w K mg base CX0 (k + 2) f9 fd9 ["band", "signs", "thing"] (sp_is_text_for CB) := fun k => ok_is_text_for B (BD (k + 0)) F9
  have TextFor : ∀ k, Def l.prog w K mg base CX0 (k + 2) "is_text_for" s_is_text_for ["band", "signs", "thing"] (sp_is_text_for CB) := fun k => defOf F9 b9 (of a9) (TextForG k)
  have NeedG : ∀ k, FnOk l.prog w K mg base CX0 (k + 6) f10 fd10 ["work", "rows"] (sp_need_rows CW CB CP) := fun k => ok_need_rows B (WD (k + 0)) (TextFor (k + 3)) F10
  have Need : ∀ k, Def l.prog w K mg base CX0 (k + 6) "need_rows" s_need_rows ["work", "rows"] (sp_need_rows CW CB CP) := fun k => defOf F10 b10 (of a10) (NeedG k)
  have RowsOfG : ∀ k, FnOk l.prog w K mg base CX0 (k + 6) f11 fd11 ["work", "signs"] (sp_rows_of CW CB CP) := fun k => ok_rows_of B (WD (k + 0)) (BD (k + 4)) F11
  have RowsOf : ∀ k, Def l.prog w K mg base CX0 (k + 6) "rows_of" s_rows_of ["work", "signs"] (sp_rows_of CW CB CP) := fun k => defOf F11 b11 (of a11) (RowsOfG k)
  have PressesAtG : ∀ k, FnOk l.prog w K mg base CX0 (k + 7) f12 fd12 ["course", "beat"] (sp_presses_at CC CW CB CP) := fun k => ok_presses_at B (CD (k + 0)) (WD (k + 1)) F12
  have PressesAt : ∀ k, Def l.prog w K mg base CX0 (k + 7) "presses_at" s_presses_at ["course", "beat"] (sp_presses_at CC CW CB CP) := fun k => defOf F12 b12 (of a12) (PressesAtG k)
  have GoneG : ∀ k, FnOk l.prog w K mg base CX0 (k + 1) f13 fd13 ["text", "many"] sp_gone := fun k => ok_gone B F13
  have Gone : ∀ k, Def l.prog w K mg base CX0 (k + 1) "gone_round" s_gone_round ["text", "many"] sp_gone := fun k => defOf F13 b13 (of a13) (GoneG k)
  have PrintedG : ∀ k, FnOk l.prog w K mg base CX0 (k + 6) f14 fd14 ["work", "press", "signs"] (sp_printed CW CB CP) := fun k => ok_printed (WD (k + 0)) (PD (k + 4)) F14
  have Printed : ∀ k, Def l.prog w K mg base CX0 (k + 6) "printed" s_printed ["work", "press", "signs"] (sp_printed CW CB CP) := fun k => defOf F14 b14 (of a14) (PrintedG k)
  have SgPrintedG : ∀ k, FnOk l.prog w K mg base CX0 (k + 7) f15 fd15 ["work", "rows", "numbers"] (sp_signs_printed CW CB CP) := fun k => ok_signs_printed B (no N.zip) (WD (k + 1)) (BD (k + 5)) (PD (k + 5)) (Gone (k + 5)) (Printed (k + 0)) F15
  have SgPrinted : ∀ k, Def l.prog w K mg base CX0 (k + 7) "signs_printed" s_signs_printed ["work", "rows", "numbers"] (sp_signs_printed CW CB CP) := fun k => defOf F15 b15 (of a15) (SgPrintedG k)
  have BeatDoneG : ∀ k, FnOk l.prog w K mg base CX0 (k + 8) f16 fd16 ["course", "rows", "beat"] (sp_beat_done CC CW CB CP) := fun k => ok_beat_done (CD (k + 1)) (WD (k + 2)) (SgPrinted (k + 0)) (PressesAt (k + 0)) (RowsOf (k + 1)) F16
  have BeatDone : ∀ k, Def l.prog w K mg base CX0 (k + 8) "beat_done" s_beat_done ["course", "rows", "beat"] (sp_beat_done CC CW CB CP) := fun k => defOf F16 b16 (of a16) (BeatDoneG k)
  have NextRowsG : ∀ k, FnOk l.prog w K mg base CX0 (k + 9) f17 fd17 ["course", "rows", "beat"] (sp_next_rows CC CW CB CP) := fun k => ok_next_rows (CD (k + 2)) (Need (k + 2)) (BeatDone (k + 0)) F17
  have NextRows : ∀ k, Def l.prog w K mg base CX0 (k + 9) "next_rows" s_next_rows ["course", "rows", "beat"] (sp_next_rows CC CW CB CP) := fun k => defOf F17 b17 (of a17) (NextRowsG k)
  have RunG : ∀ k, FnOk l.prog w K mg base CX0 (k + 9) fR fdR ["course", "rows", "beats", "begin"] (sp_run CC CW CB CP) := fun k => ok_run B (CD (k + 2)) (Need (k + 2)) (BeatDone (k + 0)) FR
  have LFeedG : ∀ k, FnOk l.prog w K mg base CX0 (k + 1) f33 fd33 ["_law_script"] (spFeed K) := fun k => ok_feed F33
  have LFeed : ∀ k, Def l.prog w K mg base CX0 (k + 1) "_law_feed" s_law_feed ["_law_script"] (spFeed K) := fun k => defOf F33 b33 (of a33) (LFeedG k)
  have LDrawG : ∀ k, FnOk l.prog w K mg base CX0 (k + 1) f34 fd34 ["_law_feed_here", "_law_many"] (spDraw K) := fun k => ok_draw F34 (no N.len) (no N.abs)
  have LDraw : ∀ k, Def l.prog w K mg base CX0 (k + 1) "_law_draw" s_law_draw ["_law_feed_here", "_law_many"] (spDraw K) := fun k => defOf F34 b34 (of a34) (LDrawG k)
  have LPickG : ∀ k, FnOk l.prog w K mg base CX0 (k + 2) f35 fd35 ["_law_feed_here", "_law_some"] (spPick K) := fun k => ok_pick F35 F34 b34 (of a34) (LDrawG (k + 0)) (no N.len)
  have LPick : ∀ k, Def l.prog w K mg base CX0 (k + 2) "_law_pick" s_law_pick ["_law_feed_here", "_law_some"] (spPick K) := fun k => defOf F35 b35 (of a35) (LPickG k)
  have LSignsG : ∀ k, FnOk l.prog w K mg base CX0 (k + 3) f37 fd37 ["_law_feed_here", "_law_many"] (spSigns K) := fun k => ok_signs F37 F34 b34 (of a34) (LDrawG (k + 1)) F35 b35 (of a35) (LPickG (k + 0)) (no N.rng) (no N.sorted)
  have LSigns : ∀ k, Def l.prog w K mg base CX0 (k + 3) "_law_signs" s_law_signs ["_law_feed_here", "_law_many"] (spSigns K) := fun k => defOf F37 b37 (of a37) (LSignsG k)
  have LNamesG : ∀ k, FnOk l.prog w K mg base CX0 (k + 3) f36 fd36 ["_law_feed_here", "_law_many"] (sp_names K) := fun k => ok_names F36 F34 b34 (of a34) (LDrawG (k + 1)) F35 b35 (of a35) (LPickG (k + 0)) B
  have LNames : ∀ k, Def l.prog w K mg base CX0 (k + 3) "_law_names" s_law_names ["_law_feed_here", "_law_many"] (sp_names K) := fun k => defOf F36 b36 (of a36) (LNamesG k)
  have LTableG : ∀ k, FnOk l.prog w K mg base CX0 (k + 3) f38 fd38 ["_law_feed_here", "_law_signs_here"] (sp_table K) := fun k => ok_table B F38 F34 b34 (of a34) (LDrawG (k + 1)) F35 b35 (of a35) (LPickG (k + 0))
  have LTable : ∀ k, Def l.prog w K mg base CX0 (k + 3) "_law_table" s_law_table ["_law_feed_here", "_law_signs_here"] (sp_table K) := fun k => defOf F38 b38 (of a38) (LTableG k)
  have LRawG : ∀ k, FnOk l.prog w K mg base CX0 (k + 4) f39 fd39 ["_law_feed_here", "_law_sizes"] (sp_raw K) := fun k => ok_raw B (no N.min) F39 F34 b34 (of a34) (LDrawG (k + 2)) F35 b35 (of a35) (LPickG (k + 1)) F37 b37 (of a37) (LSignsG (k + 0)) F36 b36 (of a36) (LNamesG (k + 0)) F38 b38 (of a38) (LTableG (k + 0))
  have LRaw : ∀ k, Def l.prog w K mg base CX0 (k + 4) "_law_raw" s_law_raw ["_law_feed_here", "_law_sizes"] (sp_raw K) := fun k => defOf F39 b39 (of a39) (LRawG k)
  have LMadeG : ∀ k, FnOk l.prog w K mg base CX0 (k + 7) f40 fd40 ["_law_raw_here"] (sp_made CW CB CP) := fun k => ok_made (k := k + 5) F40 TB TP TW ⟨cB.makes, aIB, iIB, cB.kp⟩ ⟨cP.makes, aIP, iIP, cP.kp⟩ ⟨cW.makes, aIW, iIW, cW.kp⟩ (IB (k + 1)) (IP k) (IW (k + 1)) kB kP bW
  have LMade : ∀ k, Def l.prog w K mg base CX0 (k + 7) "_law_made" s_law_made ["_law_raw_here"] (sp_made CW CB CP) := fun k => defOf F40 b40 (of a40) (LMadeG k)
  have LRowsG : ∀ k, FnOk l.prog w K mg base CX0 (k + 3) f41 fd41 ["_law_feed_here", "_law_raw_here"] (sp_rows K) := fun k => ok_rows B F41 F35 b35 (of a35) (LPickG (k + 0))
  have LRows : ∀ k, Def l.prog w K mg base CX0 (k + 3) "_law_rows" s_law_rows ["_law_feed_here", "_law_raw_here"] (sp_rows K) := fun k => defOf F41 b41 (of a41) (LRowsG k)
  have LEventsG : ∀ k, FnOk l.prog w K mg base CX0 (k + 3) f42 fd42 ["_law_feed_here", "_law_raw_here", "_law_since", "_law_most"] (sp_events K) := fun k => ok_events B (no N.min) (no N.max) F42 F34 b34 (of a34) (LDrawG (k + 1)) F35 b35 (of a35) (LPickG (k + 0))
  have LEvents : ∀ k, Def l.prog w K mg base CX0 (k + 3) "_law_events" s_law_events ["_law_feed_here", "_law_raw_here", "_law_since", "_law_most"] (sp_events K) := fun k => defOf F42 b42 (of a42) (LEventsG k)
  have LLiftedG : ∀ k, FnOk l.prog w K mg base CX0 (k + 1) f43 fd43 ["_law_raising", "_law_number", "_law_beat_here"] sp_lifted := fun k => ok_lifted F43
  have LLifted : ∀ k, Def l.prog w K mg base CX0 (k + 1) "_law_lifted" s_law_lifted ["_law_raising", "_law_number", "_law_beat_here"] sp_lifted := fun k => defOf F43 b43 (of a43) (LLiftedG k)
  have LBeatG : ∀ k, FnOk l.prog w K mg base CX0 (k + 2) f44 fd44 ["_law_raw_here", "_law_events_here", "_law_rows_here", "_law_beat_here"] (sp_beat K) := fun k => ok_beat B F44 F43 b43 (of a43) (LLiftedG (k + 0))
  have LBeat : ∀ k, Def l.prog w K mg base CX0 (k + 2) "_law_beat" s_law_beat ["_law_raw_here", "_law_events_here", "_law_rows_here", "_law_beat_here"] (sp_beat K) := fun k => defOf F44 b44 (of a44) (LBeatG k)
  have LRunsG : ∀ k, FnOk l.prog w K mg base CX0 (k + 3) f45 fd45 ["_law_raw_here", "_law_events_here", "_law_rows_here", "_law_since", "_law_many"] (sp_runs K) := fun k => ok_runs B F45 F44 b44 (of a44) (LBeatG (k + 0))
  have LRuns : ∀ k, Def l.prog w K mg base CX0 (k + 3) "_law_runs" s_law_runs ["_law_raw_here", "_law_events_here", "_law_rows_here", "_law_since", "_law_many"] (sp_runs K) := fun k => defOf F45 b45 (of a45) (LRunsG k)
  have LCourseG : ∀ k, FnOk l.prog w K mg base CX0 (k + 9) f46 fd46 ["_law_raw_here", "_law_events_here"] (sp_course CC CW CB CP) := fun k => ok_course (k := k + 7) B F46 F40 b40 (of a40) (LMadeG (k + 1)) TC ⟨cC.makes, aIC, iIC, cC.kp⟩ (IC k) kC
  have LCourse : ∀ k, Def l.prog w K mg base CX0 (k + 9) "_law_course" s_law_course ["_law_raw_here", "_law_events_here"] (sp_course CC CW CB CP) := fun k => defOf F46 b46 (of a46) (LCourseG k)
  have LWorkingG : ∀ k, FnOk l.prog w K mg base CX0 (k + 2) f47 fd47 ["_law_raw_here", "_law_events_here", "_law_beat_here"] (sp_working K) := fun k => ok_working B F47 F43 b43 (of a43) (LLiftedG (k + 0))
  have LWorking : ∀ k, Def l.prog w K mg base CX0 (k + 2) "_law_working" s_law_working ["_law_raw_here", "_law_events_here", "_law_beat_here"] (sp_working K) := fun k => defOf F47 b47 (of a47) (LWorkingG k)
  have LAreG : ∀ k, FnOk l.prog w K mg base CX0 (k + 1) f48 fd48 ["_law_raw_here", "_law_thing"] sp_are_rows := fun k => ok_are_rows B (no N.zip) F48
  have LAre : ∀ k, Def l.prog w K mg base CX0 (k + 1) "_law_are_rows" s_law_are_rows ["_law_raw_here", "_law_thing"] sp_are_rows := fun k => defOf F48 b48 (of a48) (LAreG k)
  have LIsRunG : ∀ k, FnOk l.prog w K mg base CX0 (k + 2) f49 fd49 ["_law_raw_here", "_law_told", "_law_due"] sp_is_run := fun k => ok_is_run B F49 F48 b48 (of a48) (LAreG (k + 0))
  have LIsRun : ∀ k, Def l.prog w K mg base CX0 (k + 2) "_law_is_run" s_law_is_run ["_law_raw_here", "_law_told", "_law_due"] sp_is_run := fun k => defOf F49 b49 (of a49) (LIsRunG k)
  have Step : FnG l.prog w K mg base CX0 24 f50 fd50 PsSr (sp_step CC CW CB CP) := ok_step (k := 23) B (no N.repr) F50 F12 b12 (of a12) (PressesAtG 16) F47 b47 (of a47) (LWorkingG 21) F17 b17 (of a17) (NextRowsG 14) F48 b48 (of a48) (LAreG 22)
  have Cs : Calls l.prog w K mg base CC CW CB CP 24 := ⟨LFeed 23, LRaw 20, LPick 22, LDraw 23, LEvents 21, LRows 21, LCourse 15, LRuns 21, LIsRun 22⟩
  exact ok_law (k := 24) B (no N.min) Cs (of aR) FR.kp (RunG 15) kR v0 bR F50 b50 (of a50) Step F51
end K23
set_option Elab.async false
set_option linter.all false
open PySem PySem.W PyProof.Rows
set_option maxRecDepth 100000 in
set_option maxHeartbeats 0 in
theorem PySem.Challenge.cw_bandprint_k23_beats_by_hand_holds : PySem.Challenge.rw_bandprint_k23_beats_by_hand.Holds := by
  w_on; o_law; k_head; (case hw => w_witness2)
  k_fill
  refine Bp.walkG (l := PySem.Challenge.rw_bandprint_k23_beats_by_hand) (n := 63) (k := 25) (x := "_law_script") (CX := fun _ => L2.CX0) (sp := fun w => K23.spLaw _) rfl (by decide) rfl (Bp.roomG_caller ⟨rfl, by decide, by decide⟩) (fun w h Y => PySem.W.kIn_of Y) ?F (fun w H a ns hl _ hS => ⟨a, ns, rfl, hS, Nat.le_trans hl (by decide), fun _ => rfl⟩) fun _ _ _ _ _ z => z
  case F =>
    intro w mg fa h KX G hmg
    refine' K23.all_mk KX G hmg ?qNames ?zF ?zA ?zL ?zR ?zB ?zP ?zQ ?zD ?zT ?iB ?iP ?iW ?iCs ?jRun ?jWhole ?jWithin ?jListed ?jLetters ?jName ?jSigns ?jSign ?jPlace ?jTextFor ?jNeed ?jRowsOf ?jPressesAt ?jGone ?jPrinted ?jSgPrinted ?jBeatDone ?jNextRows ?jLong ?jPace ?jSideN ?jSide ?jTable ?jRhythm ?jBands ?jPlacesOf ?jPF ?jPrs ?jPutBeat ?jLiftBeat ?jLiftWord ?jPut ?jLift ?jLFeed ?jLDraw ?jLPick ?jLNames ?jLSigns ?jLTable ?jLRaw ?jLMade ?jLRows ?jLEvents ?jLLifted ?jLBeat ?jLRuns ?jLCourse ?jLWorking ?jLAre ?jLIsRun ?jLStep ?jLaw
    case qNames =>
      refine' ⟨?isi, ?int, ?bool, ?str, ?list, ?tuple, ?all, ?len, ?rng, ?sum, ?set, ?enu, ?abs, ?min, ?max, ?sorted, ?zip, ?repr⟩
      (case isi => k_is)
      (case int => k_is)
      (case bool => k_is)
      (case str => k_is)
      (case list => k_is)
      (case tuple => k_is)
      (case all => k_is)
      (case len => k_is)
      (case rng => k_is)
      (case sum => k_is)
      (case set => k_is)
      (case enu => k_is)
      (case abs => k_is)
      (case min => k_is)
      (case max => k_is)
      (case sorted => k_is)
      (case zip => k_is)
      (case repr => k_is)
    case zF => k_is
    case zA => k_is
    case zL => k_is
    case zR => k_is
    case zB => k_is
    case zP => k_is
    case zQ => k_is
    case zD => k_is
    case zT => k_is
    case iB =>
      refine' K23.bandF_mk ?aC ?iC ?n1 ?n2 ?n3 ?a ?i ?l ?n ?c ?k ?m1 ?m2 ?m3
      (case aC => k_is)
      case iC =>
        refine' K23.isC_mk ?pg ?hd ?po ?sa ?mk ?kc ?ha ?hn ?htk ?hm
        (case pg => k_is)
        (case hd => k_is)
        (case po => k_is)
        (case sa => k_is)
        (case mk => k_is)
        (case kc => k_is)
        (case ha => k_is)
        (case hn => k_is)
        (case htk => k_is)
        (case hm => k_is)
      (case n1 => k_is)
      (case n2 => k_is)
      (case n3 => k_is)
      (case a => k_is)
      (case i => k_is)
      (case l => k_is)
      (case n => k_is)
      (case c => k_is)
      (case k => k_is)
      case m1 =>
        refine' K23.isM_mk ?a ?i ?l ?c ?k
        (case a => k_is)
        (case i => k_is)
        (case l => k_is)
        (case c => k_is)
        (case k => k_is)
      case m2 =>
        refine' K23.isM_mk ?a ?i ?l ?c ?k
        (case a => k_is)
        (case i => k_is)
        (case l => k_is)
        (case c => k_is)
        (case k => k_is)
      case m3 =>
        refine' K23.isM_mk ?a ?i ?l ?c ?k
        (case a => k_is)
        (case i => k_is)
        (case l => k_is)
        (case c => k_is)
        (case k => k_is)
    case iP =>
      refine' K23.pressF_mk ?aC ?iC ?n1 ?n2 ?n3 ?n4 ?a ?i ?l ?n ?c ?k ?m1 ?m2 ?m3 ?m4
      (case aC => k_is)
      case iC =>
        refine' K23.isC_mk ?pg ?hd ?po ?sa ?mk ?kc ?ha ?hn ?htk ?hm
        (case pg => k_is)
        (case hd => k_is)
        (case po => k_is)
        (case sa => k_is)
        (case mk => k_is)
        (case kc => k_is)
        (case ha => k_is)
        (case hn => k_is)
        (case htk => k_is)
        (case hm => k_is)
      (case n1 => k_is)
      (case n2 => k_is)
      (case n3 => k_is)
      (case n4 => k_is)
      (case a => k_is)
      (case i => k_is)
      (case l => k_is)
      (case n => k_is)
      (case c => k_is)
      (case k => k_is)
      case m1 =>
        refine' K23.isM_mk ?a ?i ?l ?c ?k
        (case a => k_is)
        (case i => k_is)
        (case l => k_is)
        (case c => k_is)
        (case k => k_is)
      case m2 =>
        refine' K23.isM_mk ?a ?i ?l ?c ?k
        (case a => k_is)
        (case i => k_is)
        (case l => k_is)
        (case c => k_is)
        (case k => k_is)
      case m3 =>
        refine' K23.isM_mk ?a ?i ?l ?c ?k
        (case a => k_is)
        (case i => k_is)
        (case l => k_is)
        (case c => k_is)
        (case k => k_is)
      case m4 =>
        refine' K23.isM_mk ?a ?i ?l ?c ?k
        (case a => k_is)
        (case i => k_is)
        (case l => k_is)
        (case c => k_is)
        (case k => k_is)
    case iW =>
      refine' K23.workF_mk ?aC ?iC ?n1 ?n2 ?n3 ?n4 ?n5 ?a ?i ?l ?d ?c ?k ?m1 ?m2 ?m3 ?m4 ?m5 ?m6 ?m7
      (case aC => k_is)
      case iC =>
        refine' K23.isC_mk ?pg ?hd ?po ?sa ?mk ?kc ?ha ?hn ?htk ?hm
        (case pg => k_is)
        (case hd => k_is)
        (case po => k_is)
        (case sa => k_is)
        (case mk => k_is)
        (case kc => k_is)
        (case ha => k_is)
        (case hn => k_is)
        (case htk => k_is)
        (case hm => k_is)
      (case n1 => k_is)
      (case n2 => k_is)
      (case n3 => k_is)
      (case n4 => k_is)
      (case n5 => k_is)
      (case a => k_is)
      (case i => k_is)
      (case l => k_is)
      (case d => k_is)
      (case c => k_is)
      (case k => k_is)
      case m1 =>
        refine' K23.isM_mk ?a ?i ?l ?c ?k
        (case a => k_is)
        (case i => k_is)
        (case l => k_is)
        (case c => k_is)
        (case k => k_is)
      case m2 =>
        refine' K23.isM_mk ?a ?i ?l ?c ?k
        (case a => k_is)
        (case i => k_is)
        (case l => k_is)
        (case c => k_is)
        (case k => k_is)
      case m3 =>
        refine' K23.isM_mk ?a ?i ?l ?c ?k
        (case a => k_is)
        (case i => k_is)
        (case l => k_is)
        (case c => k_is)
        (case k => k_is)
      case m4 =>
        refine' K23.isM_mk ?a ?i ?l ?c ?k
        (case a => k_is)
        (case i => k_is)
        (case l => k_is)
        (case c => k_is)
        (case k => k_is)
      case m5 =>
        refine' K23.isM_mk ?a ?i ?l ?c ?k
        (case a => k_is)
        (case i => k_is)
        (case l => k_is)
        (case c => k_is)
        (case k => k_is)
      case m6 =>
        refine' K23.isM_mk ?a ?i ?l ?c ?k
        (case a => k_is)
        (case i => k_is)
        (case l => k_is)
        (case c => k_is)
        (case k => k_is)
      case m7 =>
        refine' K23.isM_mk ?a ?i ?l ?c ?k
        (case a => k_is)
        (case i => k_is)
        (case l => k_is)
        (case c => k_is)
        (case k => k_is)
    case iCs =>
      refine' K23.courseF_mk ?aC ?iC ?n1 ?n2 ?n3 ?a ?i ?l ?na ?nb ?c ?k ?m1 ?m2 ?m3 ?m4
      (case aC => k_is)
      case iC =>
        refine' K23.isC_mk ?pg ?hd ?po ?sa ?mk ?kc ?ha ?hn ?htk ?hm
        (case pg => k_is)
        (case hd => k_is)
        (case po => k_is)
        (case sa => k_is)
        (case mk => k_is)
        (case kc => k_is)
        (case ha => k_is)
        (case hn => k_is)
        (case htk => k_is)
        (case hm => k_is)
      (case n1 => k_is)
      (case n2 => k_is)
      (case n3 => k_is)
      (case a => k_is)
      (case i => k_is)
      (case l => k_is)
      (case na => k_is)
      (case nb => k_is)
      (case c => k_is)
      (case k => k_is)
      case m1 =>
        refine' K23.isM_mk ?a ?i ?l ?c ?k
        (case a => k_is)
        (case i => k_is)
        (case l => k_is)
        (case c => k_is)
        (case k => k_is)
      case m2 =>
        refine' K23.isM_mk ?a ?i ?l ?c ?k
        (case a => k_is)
        (case i => k_is)
        (case l => k_is)
        (case c => k_is)
        (case k => k_is)
      case m3 =>
        refine' K23.isM_mk ?a ?i ?l ?c ?k
        (case a => k_is)
        (case i => k_is)
        (case l => k_is)
        (case c => k_is)
        (case k => k_is)
      case m4 =>
        refine' K23.isM_mk ?a ?i ?l ?c ?k
        (case a => k_is)
        (case i => k_is)
        (case l => k_is)
        (case c => k_is)
        (case k => k_is)
    case jRun =>
      refine' K23.isK_int ?a ?l ?n ?c ?k
      (case a => k_is)
      (case l => k_is)
      (case n => k_is)
      (case c => k_is)
      (case k => k_is)
    case jWhole =>
      refine' K23.is_mk ?a ?l ?c ?k
      (case a => k_is)
      (case l => k_is)
      (case c => k_is)
      (case k => k_is)
    case jWithin =>
      refine' K23.is_mk ?a ?l ?c ?k
      (case a => k_is)
      (case l => k_is)
      (case c => k_is)
      (case k => k_is)
    case jListed =>
      refine' K23.is_mk ?a ?l ?c ?k
      (case a => k_is)
      (case l => k_is)
      (case c => k_is)
      (case k => k_is)
    case jLetters =>
      refine' K23.is_mk ?a ?l ?c ?k
      (case a => k_is)
      (case l => k_is)
      (case c => k_is)
      (case k => k_is)
    case jName =>
      refine' K23.is_mk ?a ?l ?c ?k
      (case a => k_is)
      (case l => k_is)
      (case c => k_is)
      (case k => k_is)
    case jSigns =>
      refine' K23.is_mk ?a ?l ?c ?k
      (case a => k_is)
      (case l => k_is)
      (case c => k_is)
      (case k => k_is)
    case jSign =>
      refine' K23.is_mk ?a ?l ?c ?k
      (case a => k_is)
      (case l => k_is)
      (case c => k_is)
      (case k => k_is)
    case jPlace =>
      refine' K23.is_mk ?a ?l ?c ?k
      (case a => k_is)
      (case l => k_is)
      (case c => k_is)
      (case k => k_is)
    case jTextFor =>
      refine' K23.is_mk ?a ?l ?c ?k
      (case a => k_is)
      (case l => k_is)
      (case c => k_is)
      (case k => k_is)
    case jNeed =>
      refine' K23.is_mk ?a ?l ?c ?k
      (case a => k_is)
      (case l => k_is)
      (case c => k_is)
      (case k => k_is)
    case jRowsOf =>
      refine' K23.is_mk ?a ?l ?c ?k
      (case a => k_is)
      (case l => k_is)
      (case c => k_is)
      (case k => k_is)
    case jPressesAt =>
      refine' K23.is_mk ?a ?l ?c ?k
      (case a => k_is)
      (case l => k_is)
      (case c => k_is)
      (case k => k_is)
    case jGone =>
      refine' K23.is_mk ?a ?l ?c ?k
      (case a => k_is)
      (case l => k_is)
      (case c => k_is)
      (case k => k_is)
    case jPrinted =>
      refine' K23.is_mk ?a ?l ?c ?k
      (case a => k_is)
      (case l => k_is)
      (case c => k_is)
      (case k => k_is)
    case jSgPrinted =>
      refine' K23.is_mk ?a ?l ?c ?k
      (case a => k_is)
      (case l => k_is)
      (case c => k_is)
      (case k => k_is)
    case jBeatDone =>
      refine' K23.is_mk ?a ?l ?c ?k
      (case a => k_is)
      (case l => k_is)
      (case c => k_is)
      (case k => k_is)
    case jNextRows =>
      refine' K23.is_mk ?a ?l ?c ?k
      (case a => k_is)
      (case l => k_is)
      (case c => k_is)
      (case k => k_is)
    case jLong =>
      refine' K23.is_mk ?a ?l ?c ?k
      (case a => k_is)
      (case l => k_is)
      (case c => k_is)
      (case k => k_is)
    case jPace =>
      refine' K23.is_mk ?a ?l ?c ?k
      (case a => k_is)
      (case l => k_is)
      (case c => k_is)
      (case k => k_is)
    case jSideN =>
      refine' K23.is_mk ?a ?l ?c ?k
      (case a => k_is)
      (case l => k_is)
      (case c => k_is)
      (case k => k_is)
    case jSide =>
      refine' K23.is_mk ?a ?l ?c ?k
      (case a => k_is)
      (case l => k_is)
      (case c => k_is)
      (case k => k_is)
    case jTable =>
      refine' K23.is_mk ?a ?l ?c ?k
      (case a => k_is)
      (case l => k_is)
      (case c => k_is)
      (case k => k_is)
    case jRhythm =>
      refine' K23.is_mk ?a ?l ?c ?k
      (case a => k_is)
      (case l => k_is)
      (case c => k_is)
      (case k => k_is)
    case jBands =>
      refine' K23.is_mk ?a ?l ?c ?k
      (case a => k_is)
      (case l => k_is)
      (case c => k_is)
      (case k => k_is)
    case jPlacesOf =>
      refine' K23.is_mk ?a ?l ?c ?k
      (case a => k_is)
      (case l => k_is)
      (case c => k_is)
      (case k => k_is)
    case jPF =>
      refine' K23.is_mk ?a ?l ?c ?k
      (case a => k_is)
      (case l => k_is)
      (case c => k_is)
      (case k => k_is)
    case jPrs =>
      refine' K23.is_mk ?a ?l ?c ?k
      (case a => k_is)
      (case l => k_is)
      (case c => k_is)
      (case k => k_is)
    case jPutBeat =>
      refine' K23.is_mk ?a ?l ?c ?k
      (case a => k_is)
      (case l => k_is)
      (case c => k_is)
      (case k => k_is)
    case jLiftBeat =>
      refine' K23.is_mk ?a ?l ?c ?k
      (case a => k_is)
      (case l => k_is)
      (case c => k_is)
      (case k => k_is)
    case jLiftWord =>
      refine' K23.is_mk ?a ?l ?c ?k
      (case a => k_is)
      (case l => k_is)
      (case c => k_is)
      (case k => k_is)
    case jPut =>
      refine' K23.is_mk ?a ?l ?c ?k
      (case a => k_is)
      (case l => k_is)
      (case c => k_is)
      (case k => k_is)
    case jLift =>
      refine' K23.is_mk ?a ?l ?c ?k
      (case a => k_is)
      (case l => k_is)
      (case c => k_is)
      (case k => k_is)
    case jLFeed =>
      refine' K23.is_mk ?a ?l ?c ?k
      (case a => k_is)
      (case l => k_is)
      (case c => k_is)
      (case k => k_is)
    case jLDraw =>
      refine' K23.is_mk ?a ?l ?c ?k
      (case a => k_is)
      (case l => k_is)
      (case c => k_is)
      (case k => k_is)
    case jLPick =>
      refine' K23.is_mk ?a ?l ?c ?k
      (case a => k_is)
      (case l => k_is)
      (case c => k_is)
      (case k => k_is)
    case jLNames =>
      refine' K23.is_mk ?a ?l ?c ?k
      (case a => k_is)
      (case l => k_is)
      (case c => k_is)
      (case k => k_is)
    case jLSigns =>
      refine' K23.is_mk ?a ?l ?c ?k
      (case a => k_is)
      (case l => k_is)
      (case c => k_is)
      (case k => k_is)
    case jLTable =>
      refine' K23.is_mk ?a ?l ?c ?k
      (case a => k_is)
      (case l => k_is)
      (case c => k_is)
      (case k => k_is)
    case jLRaw =>
      refine' K23.is_mk ?a ?l ?c ?k
      (case a => k_is)
      (case l => k_is)
      (case c => k_is)
      (case k => k_is)
    case jLMade =>
      refine' K23.is_mk ?a ?l ?c ?k
      (case a => k_is)
      (case l => k_is)
      (case c => k_is)
      (case k => k_is)
    case jLRows =>
      refine' K23.is_mk ?a ?l ?c ?k
      (case a => k_is)
      (case l => k_is)
      (case c => k_is)
      (case k => k_is)
    case jLEvents =>
      refine' K23.is_mk ?a ?l ?c ?k
      (case a => k_is)
      (case l => k_is)
      (case c => k_is)
      (case k => k_is)
    case jLLifted =>
      refine' K23.is_mk ?a ?l ?c ?k
      (case a => k_is)
      (case l => k_is)
      (case c => k_is)
      (case k => k_is)
    case jLBeat =>
      refine' K23.is_mk ?a ?l ?c ?k
      (case a => k_is)
      (case l => k_is)
      (case c => k_is)
      (case k => k_is)
    case jLRuns =>
      refine' K23.is_mk ?a ?l ?c ?k
      (case a => k_is)
      (case l => k_is)
      (case c => k_is)
      (case k => k_is)
    case jLCourse =>
      refine' K23.is_mk ?a ?l ?c ?k
      (case a => k_is)
      (case l => k_is)
      (case c => k_is)
      (case k => k_is)
    case jLWorking =>
      refine' K23.is_mk ?a ?l ?c ?k
      (case a => k_is)
      (case l => k_is)
      (case c => k_is)
      (case k => k_is)
    case jLAre =>
      refine' K23.is_mk ?a ?l ?c ?k
      (case a => k_is)
      (case l => k_is)
      (case c => k_is)
      (case k => k_is)
    case jLIsRun =>
      refine' K23.is_mk ?a ?l ?c ?k
      (case a => k_is)
      (case l => k_is)
      (case c => k_is)
      (case k => k_is)
    case jLStep =>
      refine' K23.is_mk ?a ?l ?c ?k
      (case a => k_is)
      (case l => k_is)
      (case c => k_is)
      (case k => k_is)
    case jLaw =>
      refine' K23.is_mk ?a ?l ?c ?k
      (case a => k_is)
      (case l => k_is)
      (case c => k_is)
      (case k => k_is)


