import PyProof.Rows.All
import Wide.All
import OpenK.AllK
import Wide.FinOn
import HandS.ForMost
import HandS.Exc
import HandS.ExcOwn
import HandS.TryOnly
import HandS.WordsExc
import HandS.IsInst
import HandS.TupAny
import HandS.TupMul
import HandS.Wide
import HandS.WideMore
import HandS.Flow
import HandS.Style
import HandS.Walk
import KE.KExcSuper
import PyProof.ReprReads
import PyProof.ReprRoads
import KE.GoesEnum
import KE.GoesMore
import HandS.Iter
import PyProof.ListNew
import HandS.Base
import HandS.Call
import HandS.Conv
import HandS.RepeatKit
import HandS.RevRange
import HandS.List
import HandS.SortOrd
import HandS.SortRule
import HandS.NamedTupSort
import KE.KSortAsk
import KE.KSortTup
import HandS.Lambda
import KE.KDflt
import HandS.TryMany
import HandS.Zip
import KE.KDictZip
import HandS.SetFor
import HandS.Strs
import HandS.Gcd
import HandS.ExcIs
import HandS.ExcField
import KE.KRevSl
import KE.KEqSeq
import PySem.Challenge.RW_oftenenough_k13_days_by_parts
set_option Elab.async false
set_option linter.all false
set_option maxRecDepth 100000
set_option maxHeartbeats 4000000
namespace Gd
open PySem PySem.Spec PyProof.Rows L2

/-! ### the promise of a def around which no repr is under way -/
structure FnG (pr : Program) (w : World) (K : PySem.W.Frag) (mg : Str → Option Value) (base : Heap) (cx : CXT) (k : Nat) (f : Addr)
    (fd : FuncData) (ps : List Str) (sp : Sp) : Prop where
  len : ∀ vs H Q E, sp vs H Q E → vs.length = ps.length
  run : ∀ (A : Around) (outer : List Env) (s : Shared) (H : Hp) (args : Args) (us : List Value) (vs : List V) (Q : VK) (E : XK),
    A.guards = some [] → Room k A → Env0 pr w K mg base A outer s H → BindsTo s fd args (ps.zip us) → Vals vs us → sp vs H Q E →
    codeAny (model pr w) A (.call (.ref f) args) (CR cx outer pr w H s Q E) s

section
variable {pr : Program} {w : World} {K : PySem.W.Frag} {mg : Str → Option Value} {base : Heap}

theorem fnG_of {cx : CXT} {k : Nat} {f : Addr} {nm ql : Str} {pa : Arguments} {bd : List Stmt} {sc : Scope} {dV kV doc pm cdv ct oc : Value}
    {an od : Option Addr} {osl : Array (Option Value)} {N ps : List Str} {sp : Sp}
    (lk : K.lookup f = some ⟨oc, od, .func (PySem.W.fnOf nm ql pa bd sc dV kV doc pm an cdv ct), osl⟩)
    (hcd : PySem.W.codeIn K cdv ql = true) (S : FnScope N ps sc) (len : ∀ vs H Q E, sp vs H Q E → vs.length = ps.length)
    (hbody : ∀ (A : Around) (outer : List Env) (s : Shared) (H : Hp) (vs : List V) (Q : VK) (E : XK), A.guards = some [] →
      Room k (A.deeper (envOfC ql sc s.heap.objs.size f cdv)) → sp vs H Q E →
      ∃ t, PSs (cxOf cx pr w K mg base N ql sc f cdv A outer s H E) bd t ∧ t { nx := fun _ H' => Q .non H', rt := Q } (start N vs) H) :
    FnG pr w K mg base cx (k + 1) f (PySem.W.fnOf nm ql pa bd sc dV kV doc pm an cdv ct) ps sp := by
  constructor
  · exact len
  · intro A outer s H args us vs Q E gA room e0 bind rel hsp
    have el := len _ _ _ _ hsp
    have inK : K.In s.heap := e0.mod.kin.keeps fun b o e => (e0.bs b o e).1
    have nolim : s.heap.NoLimit := e0.mod.nolimit.keeps fun b o e => (e0.bs b o e).1
    have kinds : ∀ y ∈ ps.zip us, sc.names.lookup y.1 = some .local ∨
        (sc.names.lookup y.1 = some .cell ∧ ((cellsFrom (s.heap.objs.size + 1) sc.names []).lookup y.1).isSome = true) := by
      rintro ⟨n, v⟩ hy
      rcases S.par n (List.of_mem_zip hy).1 with q | q
      · exact Or.inl q
      · exact Or.inr ⟨q, PySem.W.cellsFrom_some _ _ _ (Or.inl q)⟩
    apply codeAny_call_function room.depth (inK _ _ lk) rfl S.co S.gen rfl (PySem.W.codeRec_of inK hcd)
    apply bind
    refine wpAny_newFunctionEnv_cells S.kind kinds ?_
    intro env he s1 x
    subst he
    refine ⟨nolim.keeps x.toInCall.keep, codeAny_func ?_⟩
    obtain ⟨t, ht, hq⟩ := hbody A outer s H vs Q E gA (room.deeper _) hsp
    have J : Inv (cxOf cx pr w K mg base N ql sc f cdv A outer s H E) [] (start N vs) H s1 := inv_start S room.hd e0 el rel x
    refine wpAny_mono (ht.run [] s1 (start N vs) H _ J hq) ?_ (fun e s' hs => hs)
    intro fl s' hs
    cases fl with
    | ret u =>
      obtain ⟨v, σ', H', J', rv, q⟩ := hs
      exact ⟨v, H', J'.os, J'.bare, J'.base, J'.hok, rv, q⟩
    | next =>
      obtain ⟨σ', H', J', q⟩ := hs
      exact ⟨V.non, H', J'.os, J'.bare, J'.base, J'.hok, rfl, q⟩
    | brk => exact hs.choose_spec.choose_spec.2.elim
    | cont => exact hs.choose_spec.choose_spec.2.elim

/-- a def of the text, no exception leaves it -/
theorem okG {x ql : Str} {st : Stmt} {f : Addr} {fd : FuncData} {N ps : List Str} {k : Nat} {sp : Sp} (F : Fun K x ql st f fd)
    (S : FnScope N ps (defScope st)) (len : ∀ vs H Q E, sp vs H Q E → vs.length = ps.length)
    (hbody : ∀ (cdv : Value) (A : Around) (outer : List Env) (s : Shared) (H : Hp) (vs : List V) (Q : VK) (E : XK), A.guards = some [] →
      Room k (A.deeper (envOfC ql (defScope st) s.heap.objs.size f cdv)) → sp vs H Q E →
      ∃ t, PSs (cxOf CX0 pr w K mg base N ql (defScope st) f cdv A outer s H E).nox (defBody st) t ∧
        t { nx := fun _ H' => Q .non H', rt := Q } (start N vs) H) : FnG pr w K mg base CX0 (k + 1) f fd ps sp := by
  obtain ⟨oc, od, kV, doc, pm, an, cdv, ct, osl, rfl, lk, hcd⟩ := F.ex
  refine fnG_of lk hcd S len ?_
  intro A outer s H vs Q E gA hr hsp
  obtain ⟨t, h, q⟩ := hbody cdv A outer s H vs Q E gA hr hsp
  exact ⟨t, h.nox, q⟩
end

section
variable {X : Cx} {cx : CXT} {k : Nat} {f : Addr} {fd : FuncData} {ps : List Str} {sp : Sp} {dvs : List V} {ds : List Value} {E : XK} {x : Str}
  {p pos : Pos} {e : Expr} {es : List Expr} {t : TA}

theorem run_fnG {pins : List (Addr × Obj)} {σ : L2.St} {H : Hp} {s : Shared} {Q : VK} {us : List Value} {vs : List V}
    (F : FnG X.prog X.w X.K X.mg X.base cx k f fd ps sp) (gA : X.A.guards = some []) (hr : Room k X.A) (hb : Binds X.K fd ps ds) (hd : Vals dvs ds)
    (hx : Passes cx X E) (I : Inv X pins σ H s) (r : Vals vs us) (h : sp (vs ++ dvs) H Q E) :
    wpAny (model X.prog X.w) X.A (call (.ref f) us) (EP X pins σ Q) X.xe s := by
  have r2 := r.append hd
  have hl : (us ++ ds).length = ps.length := by
    rw [← r2.length]
    exact F.len _ _ _ _ h
  apply wpAny_call
  refine codeAny_mono (F.run X.A X.stack s H ⟨us, []⟩ (us ++ ds) (vs ++ dvs) Q E gA hr I.env0 (hb s us I.kIn hl) r2 h) ?_
  intro r s' hq
  cases r with
  | error e => exact hx pins σ H s e s' I hq
  | ok fl =>
    cases fl with
    | ret u => exact I.after hq
    | next => exact False.elim hq
    | brk => exact False.elim hq
    | cont => exact False.elim hq

theorem pe_callG (F : FnG X.prog X.w X.K X.mg X.base cx k f fd ps sp) (gA : X.A.guards = some []) (hr : Room k X.A) (hg : Gl X x)
    (hm : X.mg x = some (.ref f)) (hk : PySem.W.keepIn X.K (.ref f) = true) (hb : Binds X.K fd ps ds) (hd : Vals dvs ds) (hx : Passes cx X E)
    (ha : PA X (e :: es) t) (hdb : (x == ("__debug__" : Str)) = false := by decide)
    (he : starEach (e :: es) X.env = (false, eval e X.env) :: starEach es X.env := by rfl)
    (hpl : (backTo pos (starEach es X.env)).any (·.1) = false := by rfl) : PE X (.Call (.Name x p) (e :: es) [] pos) (tCall sp dvs E t) := by
  constructor
  intro pins s σ H Q I h
  apply wpAny_Call_Name_kw
  refine ld_glob I hg hm ?_ hdb
  exact PySem.W.callWith_K (h₀ := X.base) I.ok.mod.kin hk
    (thn (ha.run pos pins s σ H _ I h) fun us s1 ⟨vs, H1, I1, r, q⟩ => ⟨I1.kIn, run_fnG F gA hr hb hd hx I1 r q⟩) he hpl

theorem pe_call0G (F : FnG X.prog X.w X.K X.mg X.base cx k f fd ps sp) (gA : X.A.guards = some []) (hr : Room k X.A) (hg : Gl X x)
    (hm : X.mg x = some (.ref f)) (hk : PySem.W.keepIn X.K (.ref f) = true) (hb : Binds X.K fd ps ds) (hd : Vals dvs ds) (hx : Passes cx X E)
    (hdb : (x == ("__debug__" : Str)) = false := by decide) : PE X (.Call (.Name x p) [] [] pos) (tCall sp dvs E tNil) := by
  constructor
  intro pins s σ H Q I h
  apply wpAny_Call_Name_kw
  refine ld_glob I hg hm ?_ hdb
  exact PySem.W.callWith_K0 I.kIn hk (run_fnG (us := []) F gA hr hb hd hx I .nil h)
end

/-! ### data of the tracked heap, dicts too -/
def keyD : Key → PyData
  | .inl i => .int i
  | .inr x => .str x
mutual
inductive Da (H : Hp) : V → PyData → Prop
  | non : Da H .non .none
  | bl (b : Bool) : Da H (.bl b) (.bool b)
  | int (i : Int) : Da H (.int i) (.int i)
  | str (x : Str) : Da H (.str x) (.str x)
  | lst {a : Addr} {xs : List V} {ds : List PyData} : H a = some (.lst xs) → DaL H xs ds → Da H (.ref a) (.list ds)
  | tup {a : Addr} {xs : List V} {ds : List PyData} : H a = some (.tup xs) → DaL H xs ds → Da H (.ref a) (.tuple ds)
  | dic {a : Addr} {kvs : List (Key × V)} {ds : List PyData} : H a = some (.dK kvs) → DaL H (kvs.map (·.2)) ds →
      Da H (.ref a) (.dict ((kvs.map fun p => keyD p.1).zip ds))
inductive DaL (H : Hp) : List V → List PyData → Prop
  | nil : DaL H [] []
  | cons {v : V} {vs : List V} {d : PyData} {ds : List PyData} : Da H v d → DaL H vs ds → DaL H (v :: vs) (d :: ds)
end
mutual
theorem Da.mono {H H' : Hp} (k : ∀ b o, H b = some o → H' b = some o) : ∀ {v : V} {d : PyData}, Da H v d → Da H' v d
  | _, _, .non => .non
  | _, _, .bl b => .bl b
  | _, _, .int i => .int i
  | _, _, .str x => .str x
  | _, _, .lst h r => .lst (k _ _ h) (r.mono k)
  | _, _, .tup h r => .tup (k _ _ h) (r.mono k)
  | _, _, .dic h r => .dic (k _ _ h) (r.mono k)
theorem DaL.mono {H H' : Hp} (k : ∀ b o, H b = some o → H' b = some o) : ∀ {v : List V} {d : List PyData}, DaL H v d → DaL H' v d
  | _, _, .nil => .nil
  | _, _, .cons h r => .cons (h.mono k) (r.mono k)
end
theorem DaL.length {H : Hp} : ∀ {vs : List V} {ds : List PyData}, DaL H vs ds → vs.length = ds.length
  | _, _, .nil => rfl
  | _, _, .cons _ r => congrArg (· + 1) r.length
theorem keys_read {pr : Program} {w : World} {h : Heap} : ∀ {es : List DictEntry} {kvs : List (Key × Value)}, PySem.Pairs (mixKind pr w) es kvs →
    ReadsAll h (es.map (·.key)) (kvs.map fun p => keyD p.1) []
  | _, _, .nil => .nil
  | _, _, .cons (e := e) (kv := kv) hk _ r => by
    have hk' : keyIs kv.1 e.key = true := hk
    rcases keyIs_shape hk' with ⟨i, t, e1, e2⟩ | ⟨y, t, e1, e2⟩
    · have := ReadsAll.cons (as := []) (bs := []) (Reads.int (h := h) i t) (keys_read r)
      simpa [keyD, e1, e2] using this
    · have := ReadsAll.cons (as := []) (bs := []) (Reads.str (h := h) y t) (keys_read r)
      simpa [keyD, e1, e2] using this
theorem vals_of_pairs {pr : Program} {w : World} : ∀ {es : List DictEntry} {kvs : List (Key × Value)}, PySem.Pairs (mixKind pr w) es kvs → es.map (·.val) = kvs.map (·.2)
  | _, _, .nil => rfl
  | _, _, .cons _ hv r => by simp [hv, vals_of_pairs r]
theorem kv_keys : ∀ {kvs : List (Key × V)} {us : List (Key × Value)}, KV kvs us → (kvs.map fun p => keyD p.1) = us.map fun p => keyD p.1
  | _, _, .nil => rfl
  | _, _, .cons h r => by simp [h.1, kv_keys r]
theorem kv_vals : ∀ {kvs : List (Key × V)} {us : List (Key × Value)}, KV kvs us → Vals (kvs.map (·.2)) (us.map (·.2))
  | _, _, .nil => .nil
  | _, _, .cons h r => .cons h.2 (kv_vals r)
section
variable {X : Cx} {pins : List (Addr × Obj)} {σ : L2.St} {H : Hp} {s : Shared}
mutual
theorem Da.reads (I : Inv X pins σ H s) : ∀ {v : V} {d : PyData} {u : Value}, Da H v d → RelV v u → ∃ as, Reads s.heap u d as ∧ ∀ b ∈ as, H b ≠ none
  | _, _, _, .non, r => by cases r; exact ⟨[], .none, fun b h => nomatch h⟩
  | _, _, _, .bl b, r => by cases r; exact ⟨[], .bool b, fun b h => nomatch h⟩
  | _, _, _, .int i, r => by obtain ⟨t, rfl⟩ := r; exact ⟨[], .int i t, fun b h => nomatch h⟩
  | _, _, _, .str x, r => by obtain ⟨t, rfl⟩ := r; exact ⟨[], .str x t, fun b h => nomatch h⟩
  | _, _, _, .lst (a := a) h q, r => by
    cases r
    obtain ⟨its, rv, ⟨o, n, ho, hc, hd, _⟩, _⟩ := I.list (X := X) (xs := _) (a := a) (SqL.of h)
    obtain ⟨as, hr, hn⟩ := DaL.reads I q rv
    refine ⟨_, Reads.list ho hc (by first | exact hd | assumption) hr, ?_⟩
    intro b hb
    rcases List.mem_cons.mp hb with e | hb
    · rw [e, h]; exact Option.some_ne_none _
    · exact hn b hb
  | _, _, _, .tup (a := a) h q, r => by
    cases r
    obtain ⟨its, rv, ⟨o, ho, hc, n, hd⟩, _⟩ := I.tuple (X := X) (a := a) (SqT.of h)
    obtain ⟨as, hr, hn⟩ := DaL.reads I q rv
    exact ⟨_, Reads.tuple ho hc hd hr, hn⟩
  | _, _, _, .dic (a := a) (kvs := kvs) (ds := ds) h q, r => by
    cases r
    obtain ⟨_, _, us, kv, o, es, ep, ho, hx, hd, hk, hp, _⟩ := I.hok a _ h
    obtain ⟨as, hr, hn⟩ := DaL.reads I q (kv_vals kv)
    have hl : (kvs.map fun p => keyD p.1).length = ds.length := by
      rw [List.length_map, ← q.length, List.length_map]
    have r1 := keys_read (h := s.heap) hp
    rw [← kv_keys kv] at r1
    rw [← vals_of_pairs hp] at hr
    refine ⟨_, Reads.dict (as := []) (bs := as) ho hx.1 hd ?_ ?_, ?_⟩
    · rw [List.map_fst_zip (by rw [hl]; exact Nat.le_refl _)]; exact r1
    · rw [List.map_snd_zip (by rw [hl]; exact Nat.le_refl _)]; exact hr
    · intro b hb
      rcases List.mem_cons.mp hb with e | hb
      · rw [e, h]; exact Option.some_ne_none _
      · exact hn b (by simpa using hb)
theorem DaL.reads (I : Inv X pins σ H s) : ∀ {vs : List V} {ds : List PyData} {us : List Value}, DaL H vs ds → Vals vs us → ∃ as, ReadsAll s.heap us ds as ∧ ∀ b ∈ as, H b ≠ none
  | _, _, _, .nil, r => by cases r; exact ⟨[], .nil, fun b h => nomatch h⟩
  | _, _, _, .cons h q, r => by
    cases r with
    | cons r1 r2 =>
      obtain ⟨as, q1, n1⟩ := Da.reads I h r1
      obtain ⟨bs, q2, n2⟩ := DaL.reads I q r2
      exact ⟨_, .cons q1 q2, fun b hb => (List.mem_append.mp hb).elim (n1 b) (n2 b)⟩
end
end

/-! ### how much room a thing takes when it is shown -/
structure Sm (n k : Nat) (d : PyData) : Prop where
  sh : d.showable = true
  dp : d.depth ≤ k
  ln : d.shown.length ≤ n
theorem Sm.up {n k n' k' : Nat} {d : PyData} (h : Sm n k d) (h1 : n ≤ n') (h2 : k ≤ k') : Sm n' k' d := ⟨h.sh, Nat.le_trans h.dp h2, Nat.le_trans h.ln h1⟩
theorem sm_none : Sm 4 0 .none := ⟨rfl, Nat.le_refl _, by decide +kernel⟩
theorem sm_bool (b : Bool) : Sm 5 0 (.bool b) := by
  cases b
  · exact ⟨rfl, Nat.le_refl _, by decide +kernel⟩
  · exact ⟨rfl, Nat.le_refl _, by decide +kernel⟩
theorem log_lt {i : Int} {k : Nat} (hk : 0 < k) (h : i.natAbs < 2 ^ k) : i.natAbs.log2 < k := by
  by_cases z : i.natAbs = 0
  · rw [z]; simpa using hk
  · exact (Nat.log2_lt z).mpr h
theorem sm_int {i : Int} (h : i.natAbs < 2 ^ 1920) : Sm 1921 0 (.int i) :=
  have h' := log_lt (by decide) h
  ⟨by show decide (i.natAbs.log2 < 1920) = true; exact decide_eq_true h', Nat.le_refl _, by
    show (PySem.Str.ofString (toString i)).length ≤ 1921
    exact int_text_len_1921 h'⟩
theorem sm_str {x : Str} {n : Nat} (h : (reprText x).length ≤ n) : Sm n 0 (.str x) := ⟨rfl, Nat.le_refl _, by simpa only [PyData.shown] using h⟩
structure SmL (n k : Nat) (ds : List PyData) : Prop where
  all : ∀ d ∈ ds, Sm n k d
theorem SmL.sh {n k : Nat} : ∀ {ds : List PyData}, SmL n k ds → PyData.showableAll ds = true
  | [], _ => rfl
  | d :: ds, h => by
    show (PyData.showable d && PyData.showableAll ds) = true
    rw [(h.all d List.mem_cons_self).sh, SmL.sh (n := n) (k := k) ⟨fun e he => h.all e (List.mem_cons_of_mem _ he)⟩]
    rfl
theorem SmL.dp {n k : Nat} : ∀ {ds : List PyData}, SmL n k ds → PyData.depthAll ds ≤ k
  | [], _ => Nat.zero_le _
  | d :: ds, h => by
    show max (PyData.depth d) (PyData.depthAll ds) ≤ k
    exact Nat.max_le.mpr ⟨(h.all d List.mem_cons_self).dp, SmL.dp (n := n) (k := k) ⟨fun e he => h.all e (List.mem_cons_of_mem _ he)⟩⟩
theorem SmL.ln {n k : Nat} : ∀ {ds : List PyData}, SmL n k ds → piled (PyData.shownAll ds) ≤ ds.length * (n + 2)
  | [], _ => Nat.zero_le _
  | d :: ds, h => by
    have ih := SmL.ln (n := n) (k := k) (ds := ds) ⟨fun e he => h.all e (List.mem_cons_of_mem _ he)⟩
    have hd := (h.all d List.mem_cons_self).ln
    show piled (PyData.shown d :: PyData.shownAll ds) ≤ (ds.length + 1) * (n + 2)
    rw [piled_cons, Nat.succ_mul]
    omega
theorem join_le (ts : List Str) : (Str.join ", " ts).length ≤ piled ts := by
  by_cases h : ts = []
  · subst h; exact Nat.zero_le _
  · have := join_length_add ts h
    omega
theorem shownAll_length : ∀ ds : List PyData, (PyData.shownAll ds).length = ds.length
  | [] => rfl
  | _ :: ds => congrArg (· + 1) (shownAll_length ds)
theorem textFrom_le : ∀ (ts : List Str) (acc : Str), (textFrom 0 acc ts).length ≤ acc.length + piled ts
  | [], acc => by show acc.length ≤ _; omega
  | t :: ts, acc => by
    have h := textFrom_length_pos ts 1 (acc ++ t) (by decide)
    have e : textFrom 0 acc (t :: ts) = textFrom 1 (acc ++ t) ts := rfl
    rw [e, h, strLen_append, piled_cons]
    omega
theorem sm_tup {n k : Nat} {ds : List PyData} (h : SmL n k ds) : Sm (ds.length * (n + 2) + 3) (k + 1) (.tuple ds) := by
  refine ⟨h.sh, ?_, ?_⟩
  · show PyData.depthAll ds + 1 ≤ k + 1
    have := h.dp
    omega
  · show (tupleText (PyData.shownAll ds)).length ≤ _
    have h1 := h.ln
    have h2 := join_le (PyData.shownAll ds)
    unfold tupleText
    rw [strLen_append, strLen_append]
    have e1 : (Str.ofString "(").length = 1 := by decide +kernel
    have e2 : (Str.ofString (if ((PyData.shownAll ds).length == 1) = true then ",)" else ")")).length ≤ 2 := by
      split <;> decide +kernel
    omega
theorem sm_lst {n k : Nat} {ds : List PyData} (h : SmL n k ds) : Sm (ds.length * (n + 2) + 3) (k + 1) (.list ds) := by
  refine ⟨h.sh, ?_, ?_⟩
  · show PyData.depthAll ds + 1 ≤ k + 1
    have := h.dp
    omega
  · show (listText (PyData.shownAll ds)).length ≤ _
    have h1 := h.ln
    have h2 := textFrom_le (PyData.shownAll ds) "["
    have e : (listText (PyData.shownAll ds)).length = (textFrom 0 "[" (PyData.shownAll ds)).length + 1 := by
      show (textFrom 0 "[" (PyData.shownAll ds) ++ "]").length = _
      rw [strLen_append]; rfl
    have e1 : (Str.ofString "[").length = 1 := by decide +kernel
    omega
/-- a dict of n entries -/
structure SmK (n k : Nat) (kvs : List (PyData × PyData)) : Prop where
  all : ∀ d ∈ kvs, Sm n k d.1 ∧ Sm n k d.2
theorem SmK.sh {n k : Nat} : ∀ {ds : List (PyData × PyData)}, SmK n k ds → PyData.showableKv ds = true
  | [], _ => rfl
  | d :: ds, h => by
    show (PyData.showable d.1 && PyData.showable d.2 && PyData.showableKv ds) = true
    rw [(h.all d List.mem_cons_self).1.sh, (h.all d List.mem_cons_self).2.sh, SmK.sh (n := n) (k := k) ⟨fun e he => h.all e (List.mem_cons_of_mem _ he)⟩]
    rfl
theorem SmK.dp {n k : Nat} : ∀ {ds : List (PyData × PyData)}, SmK n k ds → PyData.depthKv ds ≤ k
  | [], _ => Nat.zero_le _
  | d :: ds, h => by
    show max (max (PyData.depth d.1) (PyData.depth d.2)) (PyData.depthKv ds) ≤ k
    exact Nat.max_le.mpr ⟨Nat.max_le.mpr ⟨(h.all d List.mem_cons_self).1.dp, (h.all d List.mem_cons_self).2.dp⟩, SmK.dp (n := n) (k := k) ⟨fun e he => h.all e (List.mem_cons_of_mem _ he)⟩⟩
theorem SmK.ln {n k : Nat} : ∀ {ds : List (PyData × PyData)}, SmK n k ds → piled (PyData.shownKv ds) ≤ ds.length * (2 * n + 4)
  | [], _ => Nat.zero_le _
  | d :: ds, h => by
    have ih := SmK.ln (n := n) (k := k) (ds := ds) ⟨fun e he => h.all e (List.mem_cons_of_mem _ he)⟩
    have h1 := (h.all d List.mem_cons_self).1.ln
    have h2 := (h.all d List.mem_cons_self).2.ln
    show piled ((PyData.shown d.1 ++ ": " ++ PyData.shown d.2) :: PyData.shownKv ds) ≤ (ds.length + 1) * (2 * n + 4)
    have e1 : (Str.ofString ": ").length = 2 := by decide +kernel
    rw [piled_cons, Nat.succ_mul, strLen_append, strLen_append]
    omega
theorem sm_dic {n k : Nat} {ds : List (PyData × PyData)} (h : SmK n k ds) : Sm (ds.length * (2 * n + 4) + 2) (k + 1) (.dict ds) := by
  refine ⟨h.sh, ?_, ?_⟩
  · show PyData.depthKv ds + 1 ≤ k + 1
    have := h.dp
    omega
  · show (dictText (PyData.shownKv ds)).length ≤ _
    have h1 := h.ln
    have h2 := join_le (PyData.shownKv ds)
    unfold dictText
    rw [strLen_append, strLen_append]
    have e1 : (Str.ofString "{").length = 1 := by decide +kernel
    have e2 : (Str.ofString "}").length = 1 := by decide +kernel
    omega

/-! ### repr -/
def rRepr : List V → Hp → VK → Prop := fun xs H Q => ∃ (v : V) (d : PyData), xs = [v] ∧ Da H v d ∧ Sm 16000000 30 d ∧ Q (.str d.shown) H
theorem call_repr {X : Cx} (gA : X.A.guards = some []) (hu : X.A.units + 64 < cLine) (hb : ∃ o, X.base.get? sysModules = some o) : CallR X (.builtin "repr") rRepr := by
  intro pins s σ H xs us Q I r h
  obtain ⟨v, d, rfl, hd, sm, q⟩ := h
  obtain ⟨u, rfl, ru⟩ : ∃ u, us = [u] ∧ RelV v u := by
    cases r with
    | cons r1 r2 => cases r2; exact ⟨_, rfl, r1⟩
  obtain ⟨as, hr, hn⟩ := hd.reads I ru
  have hz : d.shown.length ≤ sizeLine := Nat.le_trans sm.ln (by rw [sizeLine_eq]; decide)
  have hs : sysModules ∉ as := fun hm => by
    obtain ⟨o, ho⟩ := hb
    exact hn _ hm (I.bs _ _ ho).2
  have fin : ∀ (h' : Heap) (u : Tok) (tk : Nat), (∀ b o, s.heap.get? b = some o → h'.get? b = some o) →
      EP X pins σ Q (.str d.shown u) { s with heap := h', toks := tk } := fun h' u tk k => ⟨.str d.shown, H, I.kept k, ⟨_, rfl⟩, q⟩
  have hdp := sm.dp
  cases hr with
  | none => exact PySem.P.repr_of_none (fin s.heap _ _ fun _ _ e => e)
  | bool b =>
    refine PySem.P.repr_of_bool ?_
    cases b
    · exact fin s.heap _ _ fun _ _ e => e
    · exact fin s.heap _ _ fun _ _ e => e
  | int i t => exact PySem.P.repr_of_int (by simpa [PyData.showable] using sm.sh) (fin s.heap _ _ fun _ _ e => e)
  | str x t => exact PySem.P.repr_of_str (fin s.heap _ _ fun _ _ e => e) hz
  | list h1 h2 h3 h4 => exact repr_of_reads' (.list h1 h2 h3 h4) sm.sh (fun _ => hs) gA (by omega) (fun _ _ e => e) fin hz
  | tuple h1 h2 h3 h4 => exact repr_of_reads' (.tuple h1 h2 h3 h4) sm.sh (fun _ => hs) gA (by omega) (fun _ _ e => e) fin hz
  | dict h1 h2 h3 h4 h5 => exact repr_of_reads' (.dict h1 h2 h3 h4 h5) sm.sh (fun _ => hs) gA (by omega) (fun _ _ e => e) fin hz
end Gd
set_option Elab.async false
set_option linter.all false
set_option maxRecDepth 100000
set_option maxHeartbeats 4000000
/-! An exception class of the program's own, below others of its own over ValueError: __init__(self, f): super().__init__(txt); self.f = f -/
namespace PySem
namespace ExG
open PySem.W PySem.Calls PyProof.Rows PySem.HandSPX
structure Ps where
  a : Pos
  b : Pos
  q1 : Pos
  q2 : Pos
  q3 : Pos
  q4 : Pos
  q5 : Pos
  q6 : Pos
  r1 : Pos
  r2 : Pos
  r3 : Pos
  r4 : Pos
def eA (f : Str) (o : Ps) : Arguments :=
  { posonlyargs := [], args := [{ arg := "self", annotation := none, pos := o.a }, { arg := f, annotation := none, pos := o.b }], vararg := none,
    kwonlyargs := [], kw_defaults := [], kwarg := none, defaults := [] }
def eB (f txt : Str) (o : Ps) : List Stmt :=
  [.Expr (.Call (.Attribute (.Call (.Name "super" o.q1) [] [] o.q2) "__init__" o.q3) [.Constant (.str txt) 0 o.q4] [] o.q5) o.q6,
   .Assign [.Attribute (.Name "self" o.r1) f o.r2] (.Name f o.r3) o.r4]
def eS (f : Str) : Scope :=
  { kind := .function, names := [(PySem.Str.ofString "self", .local), (f, .local), (PySem.Str.ofString "__class__", .free), (PySem.Str.ofString "super", .globalImplicit)],
    isGenerator := false, isCoroutine := false, more := [] }
/-- what the written part says of the class x at C, its field f, and its __init__ at fI -/
structure ExTxt (pr : Program) (K : Frag) (mg : Str → Option Value) (x f txt : Str) (C fI : Addr) : Prop where
  gC : mg x = some (.ref C)
  cls : ∃ nm q N bs bm sn sub ab col dd k0 k1 k2 k3 k5, K.lookup C = some (excClassObj nm q C N bs bm true sn sub ab col dd k0 k1 k2 k3 k5 "ValueError.__new__") ∧ refsVE bm = true
  sa : findIn K (.ref C) "__setattr__" = some (some (.builtin "object.__setattr__"))
  ga : findIn K (.ref C) "__getattribute__" = some (some (.builtin "BaseException.__getattribute__"))
  gg : findIn K (.ref C) "__getattr__" = some none
  noN : findIn K (.ref C) f = some none
  iC : findIn K (.ref C) "__init__" = some (some (.ref fI))
  tC : typeIn K (.ref fI) = some (.type "function")
  kC : keepIn K (.ref C) = true
  exC : subIn K (.ref C) (.type "BaseException") = some true
  tyC : typeIn K (.ref C) = some (.type "type")
  hdC : hasDictIn K C = true
  te : exmOne K (.ref C) (.ref C) = some true
  sup : ks_superIn K C C "__init__" = some (some (.builtin "ValueError.__init__"))
  subV : subIn K (.ref C) (.type "ValueError") = some true
  subm : mroIn K C (.ref C) = some true
  opq : nsIn K cStatics "thirdparty.any" = some none
  nos : nsIn K mainGlobals "super" = some none
  top : (pr.main.scope.names.lookup ("super" : Str)).isSome = false
  fn : ∃ (qual : Str) (oc : Value) (od : Option Addr) (doc pm : Value) (an : Option Addr) (cda : Addr) (ct : Value) (osl : Array (Option Value)) (cc : Addr) (o : Ps)
      (cl : Value) (cld : Option Addr) (csl : Array (Option Value)) (ccl : Value) (cdd : Option Addr) (vs : Array Value) (ccs : Array (Option Value)) (file : Str) (tf : Tok),
    K.lookup fI = some ⟨oc, od, .func (ksFn "__init__" qual (eA f o) (eB f txt o) (eS f) .none .none doc pm an (.ref cda) ct cc), osl⟩ ∧ codeIn K (.ref cda) qual = true ∧ (o.q3.endLine == o.q5.line) = true ∧
    K.lookup cc = some ⟨cl, cld, .cell (some (.ref C)), csl⟩ ∧ K.lookup cda = some ⟨ccl, cdd, .fields vs, ccs⟩ ∧ vs[2]? = some (.str file tf) ∧ ((pr.main.file : Str) == file) = true
  kf : (eS f).names.lookup f = some .local
  ks : (eS f).names.lookup (PySem.Str.ofString "super") = some .globalImplicit
  kc : (eS f).names.lookup (PySem.Str.ofString "__class__") = some .free
  fdb : (f == ("__debug__" : Str)) = false
  fse : (f == ("self" : Str)) = false
  bnd : ∀ (qual : Str) (o : Ps) (doc pm : Value) (an : Option Addr) (cd ct : Value) (cc : Addr) (u v : Value),
    bindArgs (ksFn "__init__" qual (eA f o) (eB f txt o) (eS f) .none .none doc pm an cd ct cc) ⟨[u, v], []⟩ = pure [(PySem.Str.ofString "self", u), (f, v)]

/-- what __init__ leaves of a fresh exception at x -/
structure Left (h h' : Heap) (x C dx t1 : Addr) (f : Str) (v : Value) : Prop where
  keep : ∀ b o, b ≠ x → h.get? b = some o → h'.get? b = some o
  obj : h'.get? x = some { cls := .ref C, dict := some dx, data := .fields #[.ref t1, .none, .none, .none, .bool false, .none] }
  dbig : h.objs.size ≤ dx
  dne : dx ≠ x
  ns : h'.Ns1 dx (fun y => if y = f then some v else none)

section
variable {prog : Program} {w : World} {A : Around} {E : Value → Shared → Prop} {R : Result → Shared → Prop} {s : Shared} {K : Frag} {mg : Str → Option Value} {C fI : Addr} {x f txt : Str}

theorem one_line {o : Expr} {name txt : Str} {apos pos cp : Pos} {env : Env} {k : Nat} (hl : (apos.endLine == pos.line) = true) :
    eval (.Call (.Attribute o name apos) [.Constant (.str txt) k cp] [] pos) env = (do
      let ov ← attributeBase o name env (eval o env)
      standAt apos.atName
      let (f, first) ← holding [ov] (getMethod ov name (do return (← importBound o env).getD true))
      callWith pos f first (backTo pos (starEach [.Constant (.str txt) k cp] env)) []) := by
  show (do
      let ov ← attributeBase o name env (eval o env)
      standAt apos.atName
      methodCall o name apos pos env ov (1 + 0) (backTo pos (starEach [.Constant (.str txt) k cp] env)) []) = _
  have e : ∀ ov, methodCall o name apos pos env ov (1 + 0) (backTo pos (starEach [.Constant (.str txt) k cp] env)) [] = (do
      let (f, first) ← holding [ov] (getMethod ov name (do return (← importBound o env).getD true))
      callWith pos f first (backTo pos (starEach [.Constant (.str txt) k cp] env)) []) := by
    intro ov
    have hf : methodCallForm (1 + 0) (backTo pos (starEach [.Constant (.str txt) k cp] env)) [] = true := rfl
    unfold methodCall calleeOf methodCallPos
    rw [hf]
    simp only [if_true, Bool.not_true, Bool.false_or, hl, pure_bind]
  simp only [e]
/-- the bound built-in __init__, called -/
theorem mw_call {B newId i : String} {bmB : List Value} (FB : ExcBaseFacts B newId i bmB) {h : Heap} {g : Array GenState} {d : Drawn} {t : Nat} {os : OsState} {u e t0 : Addr} {rest : List Value} {Q : Value → Shared → Prop}
    {nm q : Str} {N : Addr} {bs bm : List Value} {hdct : Bool} {sn : List Str} {sub : List Value} {ab : Bool} {col : Option Bool} {dd : Option Addr} {k0 k1 k2 k3 k5 : Option Value}
    (hC : h.get? C = some (excClassObj nm q C N bs bm hdct sn sub ab col dd k0 k1 k2 k3 k5 newId)) (he : h.get? e = some (excO C t0)) (hu : h.get? u = some (kxs_mw i e)) (hrest : rest.length ≤ sizeLine)
    (hq : ∀ h' t1, (∀ b o, b ≠ e → h.get? b = some o → h'.get? b = some o) → h'.get? e = some (excO C t1) → Q .none ⟨h', g, d, t, os⟩) :
    wpAny (model prog w) A (call (.ref u) rest) Q E ⟨h, g, d, t, os⟩ := by
  refine wpAny_call (codeAny_of_tree ?_)
  show wpAny _ A.in1 (callAny (.ref u) ⟨rest, []⟩) _ _ _
  simp only [callAny]
  refine wpAny_bind (wpAny_load hu ?_)
  have z : (Value.type "method-wrapper" == Value.type "method" || Value.type "method-wrapper" == Value.type "builtin_function_or_method" || Value.type "method-wrapper" == Value.type "method-wrapper") = true := by decide
  simp only [kxs_mw, z, if_true]
  refine KFB.if_so (by decide) ?_
  refine wpAny_bind (check_bound_init FB.toExcCallFacts hC he rfl ?_)
  refine wpAny_bind (wpAny_pure (wpAny_pure ?_))
  refine ⟨plainId_quiet FB.init.plain _, codeAny_builtin FB.initEntry ?_⟩
  exact exc_init_tree (cls := .ref C) (t0 := t0) (dv := none) (c2 := .none) (c3 := .none) (b4 := .bool false) he hrest fun h' k e' _ => hq h' _ k e'

theorem ex_init (T : ExTxt prog K mg x f txt C fI) (hns : s.heap.Ns mainGlobals mg) {mb : Str → Option Value} (hbn : s.heap.Ns builtinsNs mb) (hbb : ∀ x : Str, x ≠ "__name__" → mb x = bootBuiltins x)
    {e t0 : Addr} {v : Value} (X : K.In s.heap) (hlim : s.heap.NoLimit) (hx : s.heap.get? e = some (excO C t0)) (hnx : K.lookup e = none) (hroom : A.depth < recursionLimit)
    (hq : ∀ h' tk dx t1, Left s.heap h' e C dx t1 f v → R (.ok (.ret .none)) { s with heap := h', toks := tk }) :
    codeAny (model prog w) A (.call (.ref fI) ⟨[.ref e, v], []⟩) R s := by
  obtain ⟨qual, oc, od, doc, pm, an, cda, ct, osl, cc, o, cl, cld, csl, ccl, cdd, vs, ccs, file, tf, hfn, hcd, hol, hcc, hcda, hvs, hfile⟩ := T.fn
  obtain ⟨nm, q, N, bs, bm, sn, sub, ab, col, dd, k0, k1, k2, k3, k5, hC, hbm⟩ := T.cls
  have hcl : clsIn K C = some { name := nm, bases := bs, mro := .ref C :: bm, ns := N, qualname := q, hasDict := true, slotNames := sn, subclasses := sub, abstract := ab, collection := col, hasDel := false } := by unfold clsIn; rw [hC] <;> rfl
  have lk1 : ∀ (a b : Value), ([((("self" : Str)), a), (f, b)] : List (Str × Value)).reverse.lookup f = some b := fun a b => by
    show ([(f, b), (("self" : Str), a)] : List (Str × Value)).lookup f = some b
    simp [List.lookup]
  have lk0 : ∀ (a b : Value), ([((("self" : Str)), a), (f, b)] : List (Str × Value)).reverse.lookup (PySem.Str.ofString "self") = some a := fun a b => by
    show ([(f, b), (("self" : Str), a)] : List (Str × Value)).lookup (PySem.Str.ofString "self") = some a
    have z : (("self" : Str) == f) = false := by
      have := T.fse
      rw [beq_eq_false_iff_ne] at this ⊢
      exact fun y => this y.symm
    simp [List.lookup, z]
  refine ks_codeAny_call_defAt (fd := ksFn "__init__" qual (eA f o) (eB f txt o) (eS f) .none .none doc pm an (.ref cda) ct cc) (body := eB f txt o) (binds := [(PySem.Str.ofString "self", .ref e), (f, v)]) hroom (X _ _ hfn) rfl hlim (codeRec_of X hcd) rfl
    (BindsTo.of_eq (T.bnd _ _ _ _ _ _ _ _ _ _)) ?_ ?_ (fun h1 hns1 k1 => ?_) rfl rfl rfl
  · intro y hy
    have hy' : y ∈ [(PySem.Str.ofString "self", NameKind.local), (f, .local), (PySem.Str.ofString "__class__", .free), (PySem.Str.ofString "super", .globalImplicit)] := hy
    simp only [List.mem_cons, List.not_mem_nil, or_false] at hy'
    rcases hy' with rfl | rfl | rfl | rfl <;> simp
  · intro y hy
    simp only [List.mem_cons, List.not_mem_nil, or_false] at hy
    rcases hy with rfl | rfl
    · rfl
    · exact T.kf
  · have X1 : K.In h1 := X.keeps k1
    have hx1 := k1 _ _ hx
    obtain ⟨oD, hD1, hD2⟩ : ∃ oD : Obj, h1.get? C = some oD ∧ ∃ cdD, oD.data = .cls cdD := ⟨_, X1 _ _ hC, _, rfl⟩
    obtain ⟨cdD, hD2⟩ := hD2
    have nC : e ≠ C := fun z => by
      rw [z] at hnx
      rw [hC] at hnx
      cases hnx
    obtain ⟨hp, g, d, tk, os⟩ := s
    -- super().__init__(txt)
    show wpAt _ _ _ (execs (_ :: _) _) _ _ _
    refine ks_wpAt_execs_cons (ks_wpAt_Expr_any ?_ rfl rfl)
    refine ks_wpAt_MethodCall (pl := do return (← importBound _ _).getD true) ?_ (one_line hol)
    refine ks_wpAt_super_base (env := ksEnv qual (eS f) hp.objs.size fI (.ref cda) cc) T.ks T.kc (by decide +kernel) rfl (X1 _ _ hfn) rfl rfl rfl (X1 _ _ hcda) rfl hvs hfile T.top ?_
    refine ks_loadName_global rfl T.ks (loadGlobal_builtin (env := ksEnv qual (eS f) hp.objs.size fI (.ref cda) cc) (hns.keeps k1) (mg_none_of X hns T.nos) (hbn.keeps k1) ((hbb _ (by decide +kernel)).trans PyProof.Rows.Boot.«super») ⟨rfl, ?_⟩)
    refine wpAny_loadName_free rfl T.kc rfl ⟨_, X1 _ _ hcc, rfl⟩ ?_
    refine wpAny_loadName_local rfl rfl hns1 (lk0 _ _) ?_
    refine ks_wpAny_isType_cls hD1 hD2 ⟨rfl, ?_⟩
    refine ks_wpAny_call_super hD1 hD2 hx1 rfl (fun c e => by cases e) (looks_mroIn X1 T.subm) (fun h2 e2 k2 => ?_)
    have X2 : K.In h2 := X1.keeps k2
    have I2 : InstAt h2 e (excO C t0) C none := ⟨k2 _ _ hx1, rfl, rfl, trivial⟩
    have hI : Looks (model prog w) h2 (isInstance (.ref e) (.type "ValueError")) true := I2.type.andThen (looks_subIn X2 T.subV)
    have hsup : alongIn K "__init__" (((Value.ref C :: bm).dropWhile (· != .ref C)).drop 1) = some (some (.builtin "ValueError.__init__")) := by
      have z := T.sup
      unfold ks_superIn at z
      rw [hcl] at z
      exact z
    refine kxs_getMethod kxs_ValueError e2 (looks_opaque X2 T.opq) (l₀ := .ref C :: bm) ?_ rfl X2 hsup hI nC (by decide +kernel) ?_
    · exact fun A Q E s k q => wpAny_bind ((looks_clsIn X2 hcl) A _ E s k (wpAny_pure q))
    refine kxs_callWith (i := "ValueError.__init__") (x := e) rfl (evalArgs_plain ?_)
    have hu : (h2.push (kxs_mw "ValueError.__init__" e)).get? h2.objs.size = some (kxs_mw "ValueError.__init__" e) := Heap.get?_push_at rfl rfl
    show wpAny _ _ (spliced [(false, eval (.Constant (.str txt) 0 o.q4) (ksEnv qual (eS f) hp.objs.size fI (.ref cda) cc))]) _ _ _
    refine Calls.spliced_cons ?_
    refine wpAny_Constant_str ?_
    refine Calls.spliced_nil ?_
    refine ⟨hu, ?_⟩
    have k3 : ∀ b o, h2.get? b = some o → (h2.push (kxs_mw "ValueError.__init__" e)).get? b = some o := fun b o z => Heap.get?_push_of_some _ z
    refine mw_call (C := C) PySem.F.excBase_ValueError (k3 _ _ (X2 _ _ hC)) (k3 _ _ I2.at_) hu (by show 1 ≤ sizeLine; rw [sizeLine_eq]; decide) (fun h4 t4 k4 hx4 => ?_)
    -- self.f = f
    have k14 : ∀ b o, b ≠ e → h1.get? b = some o → h4.get? b = some o := fun b o hb z => k4 b o hb (k3 _ _ (k2 _ _ z))
    have X4 : K.In h4 := fun b o z => k14 b o (fun y => by rw [y, hnx] at z; cases z) (X1 b o z)
    have ns4 : h4.Ns hp.objs.size (fun y => ([(PySem.Str.ofString "self", Value.ref e), (f, v)] : List (Str × Value)).reverse.lookup y) := by
      obtain ⟨oL, es, ep, hL, r⟩ := hns1
      exact ⟨oL, es, ep, k14 _ _ (Nat.ne_of_gt (Heap.lt_size hx)) hL, r⟩
    show wpAt _ _ _ (execs _ _) _ _ _
    refine wpAt_of_wpAny ?_
    show wpAny _ _ (execs (_ :: _) _) _ _ _
    refine wpAny_execs_cons (plainObj_wpAny_Assign_Attribute ?_)
    refine wpAny_Name (wpAny_loadName_local rfl T.kf ns4 (lk1 _ _) ?_) T.fdb
    refine wpAny_Name (wpAny_loadName_local rfl rfl ns4 (lk0 _ _) ?_) (by decide +kernel)
    refine set_plain X4 (ox := excO C t4) (od := none) ⟨hx4, rfl, rfl, trivial⟩ T.sa ?_
    refine exc_osa X4 hx4 hcl (show refsVE (.ref C :: bm) = true from hbm) rfl T.noN (fun h5 tk5 dx k5 dn dne hx5 hn5 => ?_)
    show wpAny _ _ (execs _ _) _ _ _
    refine wpAny_execs_nil (hq h5 tk5 dx t4 ⟨fun b o hb z => k5 b o hb (k14 b o hb (k1 b o z)), hx5, ?_, dne, hn5⟩)
    have z1 : hp.objs.size < h4.objs.size := ns4.lt
    exact Nat.le_of_lt (Nat.lt_of_lt_of_le z1 dn)

/-- one that has been made -/
structure Made (h h' : Heap) (e C d : Addr) (f : Str) (v : Value) : Prop where
  keep : ∀ b o, h.get? b = some o → h'.get? b = some o
  new : h.objs.size ≤ e
  obj : ∃ oe vs, h'.get? e = some oe ∧ oe.cls = .ref C ∧ oe.dict = some d ∧ oe.data = .fields vs ∧ vs[1]? = some .none
  dbig : h.objs.size ≤ d
  dne : d ≠ e
  ns : h'.Ns1 d (fun y => if y = f then some v else none)

theorem ex_made (T : ExTxt prog K mg x f txt C fI) (hns : s.heap.Ns mainGlobals mg) {mb : Str → Option Value} (hbn : s.heap.Ns builtinsNs mb) (hbb : ∀ x : Str, x ≠ "__name__" → mb x = bootBuiltins x)
    {v : Value} (X : K.In s.heap) (hlim : s.heap.NoLimit) (hroom : A.depth + 1 < recursionLimit)
    (hq : ∀ h' tk e d, Made s.heap h' e C d f v → R (.ok (.ret (.ref e))) { s with heap := h', toks := tk }) :
    codeAny (model prog w) A (.call (.ref C) ⟨[v], []⟩) R s := by
  obtain ⟨nm, q, N, bs, bm, sn, sub, ab, col, dd, k0, k1, k2, k3, k5, hC, hbm⟩ := T.cls
  obtain ⟨hp, g, dr, tk, os⟩ := s
  have k : ∀ b o, hp.get? b = some o → ((hp.push (kdv_tup [v])).push (excO C hp.objs.size)).get? b = some o :=
    fun b o e => Heap.get?_push_of_some _ (Heap.get?_push_of_some _ e)
  have hget : ((hp.push (kdv_tup [v])).push (excO C hp.objs.size)).get? (hp.objs.size + 1) = some (excO C hp.objs.size) := by heap_get
  have hnx : K.lookup (hp.objs.size + 1) = none := by
    cases e : K.lookup (hp.objs.size + 1) with
    | none => rfl
    | some o =>
      have z : hp.get? (hp.objs.size + 1) = some o := X _ _ e
      exact absurd (Nat.lt_of_succ_lt (Heap.lt_size z)) (Nat.lt_irrefl _)
  refine call_own F.excBase_ValueError (fun X => refsVE_contains X bm hbm) (X _ _ hC) (looks_findIn X T.iC) (fun self => bind_fn X self T.tC) (by show 1 ≤ sizeLine; rw [sizeLine_eq]; decide) ?_
  refine ex_init (s := ⟨(hp.push (kdv_tup [v])).push (excO C hp.objs.size), g, dr, tk, os⟩) T (hns.keeps k) (hbn.keeps k) hbb (X.keeps k) (hlim.keeps k) hget hnx ?_ ?_
  · show A.depth + 1 < recursionLimit
    exact hroom
  · rintro h' tk' dx t1 ⟨k', hx, dn, dne, hn⟩
    have old : ∀ b o, hp.get? b = some o → h'.get? b = some o := fun b o e => k' b o (Nat.ne_of_lt (Nat.lt_succ_of_lt (Heap.lt_size e))) (k b o e)
    have z : hp.objs.size + 1 + 1 ≤ dx := by
      have q := dn
      first
        | exact q
        | (simpa only [Heap.size_push] using q)
        | (rw [Heap.size_push, Heap.size_push] at q; exact q)
    exact ⟨rfl, hq h' tk' (hp.objs.size + 1) dx ⟨old, Nat.le_succ _, ⟨_, _, hx, rfl, rfl, rfl, rfl⟩, Nat.le_trans (Nat.le_trans (Nat.le_succ _) (Nat.le_succ _)) z, dne, hn⟩⟩
end
end ExG
end PySem

namespace Gd
open PySem PySem.Spec PyProof.Rows L2 PySem.ExG
theorem relO_one {v : V} {v' : Value} {n : Str} (r : RelV v v') (y : Str) : RelO (List.lookup y [(n, v)]) (if y = n then some v' else none) := by
  by_cases h : y = n
  · subst h
    have q : List.lookup y [(y, v)] = some v := by simp [List.lookup]
    rw [if_pos rfl, q]
    exact r
  · have qw : (y == n) = false := beq_eq_false_iff_ne.mpr h
    have q : List.lookup y [(n, v)] = none := by simp [List.lookup, qw]
    rw [if_neg h, q]
    trivial
section
variable {X : Cx} {C fI : Addr} {x f txt : Str}
/-- x(e): the error's own dict at d -/
def tMkEx (C : Addr) (f : Str) (ta : TA) : L2.St → Hp → XK → Prop := fun σ H Q => ta σ H fun vs H1 => ∃ v, vs = [v] ∧ ∀ d, H1 d = none → Q (.ref C) (some d) (upd H1 d (.xd [(f, v)]))
theorem pmk_ex {a : Expr} {ta : TA} {p pos : Pos} {k : Nat} (T : ExTxt X.prog X.K X.mg x f txt C fI) (hr : Room k X.A) (ha : PA X [a] ta) (hg : Gl X x)
    (hdb : (x == ("__debug__" : Str)) = false := by decide)
    (he : starEach (a :: []) X.env = (false, eval a X.env) :: starEach [] X.env := by rfl) (hpl : (backTo pos (starEach [] X.env)).any (·.1) = false := by rfl) :
    PMk X (.Call (.Name x p) [a] [] pos) (tMkEx C f ta) := by
  intro pins s σ H Q I h
  refine wpAny_Call_Name_kw (ld_glob I hg T.gC ?_ hdb)
  refine PySem.W.callWith_K (h₀ := X.base) I.ok.mod.kin T.kC (thn (ha.run pos pins s σ H _ I h) fun us s1 hh => ?_) he hpl
  obtain ⟨vs, H1, I1, r1, v, ev, q1⟩ := hh
  subst ev
  refine ⟨I1.kIn, ?_⟩
  cases r1 with
  | cons rv rn =>
    rename_i v' us'
    cases rn
    show wpAny _ _ (call (.ref C) [v']) _ _ _
    have hlim := I1.nolimit
    obtain ⟨mb, hbn, hbb⟩ := I1.ok.mod.blt
    have hbn' := hbn.keeps I1.bk
    have hns := I1.ok.mod.glob.keeps I1.bk
    have XK := I1.kIn
    obtain ⟨hp, g, dr, tk, os⟩ := s1
    refine wpAny_call (ex_made T hns hbn' hbb XK hlim (by have := hr.dp; omega) ?_)
    intro h' tk' e d M
    show MkP X pins σ Q (.ref e) ⟨h', g, dr, tk', os⟩
    obtain ⟨oe, fv, hoe, hc, hd, hdat, h1⟩ := M.obj
    have hn := M.ns
    obtain ⟨G', g1, g2⟩ := restrict h' fun b => decide (b ≠ e)
    have gk : ∀ b, b ≠ e → G'.get? b = h'.get? b := fun b hb => g1 b (decide_eq_true hb)
    have ge : G'.get? e = none := g2 e (by simp)
    have old : ∀ b o, hp.get? b = some o → G'.get? b = some o := fun b o q => (gk b (Nat.ne_of_lt (Nat.lt_of_lt_of_le (Heap.lt_size q) M.new))).trans (M.keep b o q)
    have ob : ObjOk X.prog X.w (upd H1 d (.xd [(f, v)])) G' d (.xd [(f, v)]) := ⟨_, hn.at (fun o q => (gk d M.dne).trans q), fun y => relO_one rv y⟩
    have J : Inv X pins σ (upd H1 d (.xd [(f, v)])) ⟨G', g, dr, tk', os⟩ := I1.laid (t' := tk') old M.dbig ob
    refine ⟨e, oe, fv, ⟨G', g, dr, tk', os⟩, _, .ref C, some d, rfl, J, fun b o q => ?_, ge, hoe, ⟨hc, hd⟩, hdat, h1, ?_, rfl, I1.bare, raises_own T.exC T.tyC, q1 d (I1.hok.fresh M.dbig)⟩
    · by_cases hb : b = e
      · have q' : G'.get? b = some o := q
        rw [hb, ge] at q'
        cases q'
      · exact (gk b hb).symm.trans q
    · rw [upd_ne (Ne.symm M.dne)]
      exact I1.hok.fresh M.new
/-- raise x(e) -/
def tRaiseEx (C : Addr) (f : Str) (W : WX) (ta : TA) : TS := fun _ σ H => tMkEx C f ta σ H fun cls d H' => W cls d σ H'
theorem ps_raiseEx {a : Expr} {ta : TA} {W : WX} {p pos pos2 : Pos} {k : Nat} (hc : X.calm = true) (T : ExTxt X.prog X.K X.mg x f txt C fI) (hr : Room k X.A) (tk : Takes X W) (ha : PA X [a] ta) (hg : Gl X x)
    (hdb : (x == ("__debug__" : Str)) = false := by decide)
    (he : starEach (a :: []) X.env = (false, eval a X.env) :: starEach [] X.env := by rfl) (hpl : (backTo pos (starEach [] X.env)).any (·.1) = false := by rfl) :
    PS X (.Raise (some (.Call (.Name x p) [a] [] pos)) none pos2) (tRaiseEx C f W ta) := ps_raise hc tk (pmk_ex T hr ha hg hdb he hpl)
/-- n.f, n the exception that the suite holds (at a; its class cls, its dict d) -/
def tByEx (C : Addr) (f : Str) (a : Addr) (cls : Value) (d : Option Addr) (te : TE) : TE := fun σ H Q => te σ H fun y H1 => y = .ref a ∧ cls = .ref C ∧ ∃ (dd : Addr) (v : V), d = some dd ∧ H1 dd = some (.xd [(f, v)]) ∧ Q v H1
theorem pe_byEx {a : Addr} {oe : Obj} {cls : Value} {d : Option Addr} {pn : List (Addr × Obj)} {e : Expr} {te : TE} {pos : Pos} (T : ExTxt X.prog X.K X.mg x f txt C fI) (hz : Zc cls d oe) (hf : ∃ vs, oe.data = .fields vs) (he : PE (X.suite a ((a, oe) :: pn)) e te)
    (hb : attributeBase e f X.env (eval e X.env) = eval e X.env := by rfl) :
    PE (X.suite a ((a, oe) :: pn)) (.Attribute e f pos) (tByEx C f a cls d te) := by
  refine ⟨fun pins s σ H Q I h => ?_⟩
  refine attr_of hb (thn (he.run pins s σ H _ I h) fun u s1 hh => ?_)
  obtain ⟨y, H1, I1, rx, ex, ec, dd, v, ed, ea, q⟩ := hh
  subst ex
  obtain rfl : u = Value.ref a := rx
  subst ec
  subst ed
  obtain ⟨ha, _⟩ := I1.pin (a, oe) (List.mem_append_left _ List.mem_cons_self)
  obtain ⟨vs, hd⟩ := hf
  have hx : ObjOk X.prog X.w H1 s1.heap dd (.xd [(f, v)]) := I1.hok dd _ ea
  obtain ⟨mA, hns, hr⟩ := hx
  obtain ⟨od, ho, hl⟩ := lookIn_ns hns
  have l : List.lookup f [(f, v)] = some v := by simp [List.lookup]
  obtain ⟨u, hu, ru⟩ := RelO.some_of (v := v) (o := mA f) (by rw [← l]; exact hr f)
  have J : PySem.W.InstAt s1.heap a oe C (some od) := ⟨ha, hz.1, by unfold PySem.W.notCls; rw [hd] <;> rfl, by rw [hz.2]; exact ho⟩
  exact HandSPX.exc_get I1.kIn J T.ga T.gg T.exC (PySem.W.findObj_own T.hdC T.noN rfl (by rw [hl, hu])) (handed_of ru) ⟨v, H1, I1.tok _, ru, q⟩
end
end Gd
set_option Elab.async false
set_option linter.all false
set_option maxRecDepth 100000
set_option maxHeartbeats 4000000
/-! for i, x in enumerate(t), t a tuple -/
namespace Gd
open PySem PySem.Spec PyProof.Rows L2
theorem meets_en1 {v : Value} {o : Obj} {Z : Heap → Prop} (B : Begins v o Z) :
    Meets (Builtin.«enumerate.__new__» ⟨[.type "enumerate", v], []⟩) (fun _ R s => Z s.heap ∧
      R (.ok (.ret (.ref (s.heap.push o).objs.size)))
        { s with heap := (s.heap.push o).push { cls := .type "enumerate", data := .fields #[.none, .bool false, .ref s.heap.objs.size, rawInt 0, .none, .none] } }) :=
  .of_wp fun prog w A R s h => by
    obtain ⟨hp, g, d, tk, os⟩ := s
    obtain ⟨h1, h⟩ := h
    have hsub := sub_enumerate
    have q1 : ∀ {A' : Around} {E : Value → Shared → Prop} {Q : Value → Shared → Prop}, Q (.ref hp.objs.size) ⟨hp.push o, g, d, tk, os⟩ →
        wpAny (model prog w) A' (pyIter v) Q E ⟨hp, g, d, tk, os⟩ := fun q => B.iter prog w _ _ ⟨hp, g, d, tk, os⟩ _ h1 q
    wp_walk using q1
    refine wpAny_stack_any fun st => wpAny_pure ?_
    split
    · rename_i c _ _ _ _ _
      cases (c == Value.type "enumerate")
      all_goals (wp_walk using q1; exact ⟨_, rfl, h⟩)
    · wp_walk using q1
      exact ⟨_, rfl, h⟩
theorem call_en1 {prog : Program} {w : World} {A : Around} {E : Value → Shared → Prop} {s : Shared} {v : Value} {o : Obj} {Z : Heap → Prop} {Q : Value → Shared → Prop} (B : Begins v o Z) (h1 : Z s.heap)
    (h : ∀ h', IsEnum h' (s.heap.objs.size + 1) s.heap.objs.size 0 .none → h'.get? s.heap.objs.size = some o → h'.objs.size = s.heap.objs.size + 2 →
      (∀ b o, s.heap.get? b = some o → h'.get? b = some o) → Q (.ref (s.heap.objs.size + 1)) { s with heap := h' }) :
    wpAny (model prog w) A (call (.type "enumerate") [v]) Q E s := by
  refine callType_new F.called_enumerate (by decide) (F.typeCall_enumerate_1 _) (F.newCall_enumerate_1 _) (fun obj => F.args_object_init_2 obj _) F.entry_enumerate_new
    (meets_en1 B) ⟨h1, ?_⟩
  have hz : (s.heap.push o).objs.size = s.heap.objs.size + 1 := Heap.size_push ..
  show _ ∧ _
  rw [hz]
  have he : IsEnum ((s.heap.push o).push { cls := .type "enumerate", data := .fields #[.none, .bool false, .ref s.heap.objs.size, rawInt 0, .none, .none] })
      (s.heap.objs.size + 1) s.heap.objs.size 0 .none := by
    have q := Heap.get?_push_size (s.heap.push o) (o := { cls := .type "enumerate", data := .fields #[.none, .bool false, .ref s.heap.objs.size, rawInt 0, .none, .none] }) rfl
    rw [hz] at q
    exact q
  refine ⟨⟨_, he, rfl⟩, h _ he (Heap.get?_push_of_some _ (Heap.get?_push_size _ B.free)) (by rw [Heap.size_push, hz]) ?_⟩
  exact fun b o x => Heap.get?_push_of_some _ (Heap.get?_push_of_some _ x)

/-- the tuple at a, each item in a new pair -/
def ItE (K : PySem.W.Frag) (a : Addr) : It :=
  ⟨fun i H => ∃ (xs : List V) (x : V), SqT K H a xs ∧ xs[i]? = some x,
   fun i H v H' => ∃ T x, v = .ref T ∧ H T = none ∧ H' = upd H T (.tup [.int (i : Nat), x]) ∧ ∀ xs, SqT K H a xs → xs[i]? = some x,
   fun i H => ∃ xs : List V, SqT K H a xs ∧ xs.length = i⟩
theorem turn_enumT {P : Program} {w : World} {K : PySem.W.Frag} {elts : List Expr} {kk : Nat} {tpos : Pos} (a e it : Addr) :
    Turn P w K (.Tuple elts kk tpos) (ItE K a) [e, it] e (fun i h => (∃ old, IsEnum h e it ((i : Nat) : Int) old) ∧ h.IsTupleIter it a i ∧ e ≠ it ∧ a ≠ it ∧ e ≠ a) where
  mem := by simp
  obj := fun i h st b hb => by
    obtain ⟨⟨old, he⟩, ⟨o, ho, hc, hd⟩, _⟩ := st
    rcases (show b = e ∨ b = it by simpa using hb) with z | z
    · rw [z]
      exact ⟨_, he, fun v q => nomatch q⟩
    · rw [z]
      exact ⟨o, ho, fun v q => by rw [hd] at q; cases q⟩
  keep := fun i h h' st k => by
    obtain ⟨⟨old, he⟩, hi, hne⟩ := st
    exact ⟨⟨old, k e (by simp) _ he⟩, hi.at fun o q => k it (by simp) o q, hne⟩
  item := by
    intro X hP hw hK hc i pins s σ H E I hf st hg
    subst hP hw hK
    obtain ⟨⟨old, he⟩, hit, hne, hai, hea⟩ := st
    obtain ⟨xs, x, hq, hx⟩ := hg
    obtain ⟨its, rv, p, hz⟩ := I.tuple hq
    obtain ⟨u, hu, ru⟩ := rv.get hx
    have hel : e < s.heap.objs.size := Heap.lt_size he
    have hil : it < s.heap.objs.size := by
      obtain ⟨_, q, _⟩ := hit
      exact Heap.lt_size q
    have hi : i < its.toArray.size := by
      have := (List.getElem?_eq_some_iff.mp hu).1
      simpa using this
    refine wpAny_pyNext_enum_itemD (Draws.tuple (A := X.A.in1) (I.ok.hd hc) it a hai its.toArray) he ⟨hit, p⟩ hi hne (by simp [hne, hea]) ?_
    intro x' h' tk hx' ho hst hT hsz hk
    have eu : x' = u := by
      have q : its[i]? = some x' := by simpa using hx'
      rw [hu] at q
      exact (Option.some.inj q).symm
    subst eu
    refine ⟨_, rfl, wpAny_letOwnedTupleGo_enum (s := { s with heap := h', toks := tk + 1 }) ho fun h'' he' sb => ?_⟩
    have hT2 : h''.get? s.heap.objs.size = some { cls := .type "tuple", data := .seq #[.int i tk, x'] } := (sb.2 _ (Nat.ne_of_gt hel)).trans hT
    have new : ObjOk X.prog X.w (upd H s.heap.objs.size (.tup [.int (i : Nat), x])) h'' s.heap.objs.size (.tup [.int (i : Nat), x]) :=
      ⟨by show 2 ≤ sizeLine; decide, [.int i tk, x'], .cons ⟨_, rfl⟩ (.cons ru .nil), ⟨_, hT2, rfl, _, rfl⟩⟩
    have I1 : Inv X pins σ (upd H s.heap.objs.size (.tup [.int (i : Nat), x])) { s with heap := h'', toks := tk + 1 } :=
      I.turnedNew (ch := [e, it]) (fun b ob hb q => (sb.2 b (fun z => hb (by simp [z]))).trans (hk b ob (fun z => hb (by simp [z])) (fun z => hb (by simp [z])) q)) hf (Nat.le_refl _) new
    refine ⟨.ref s.heap.objs.size, _, I1, rfl, ⟨_, x, rfl, I.hok.fresh (Nat.le_refl _), rfl, fun ys hy => by rw [I.tuple_inj hy hq]; exact hx⟩,
      ⟨⟨x', ?_⟩, hst.1.at fun o q => (sb.2 it (Ne.symm hne)).trans q, hne, hai, hea⟩, fun b hb => ?_⟩
    · have e1 : ((i + 1 : Nat) : Int) = (i : Int) + 1 := by omega
      rw [e1]
      exact he'
    · have hb' : b < s.heap.objs.size := by
        rcases (show b = e ∨ b = it by simpa using hb) with z | z
        · rw [z]; exact hel
        · rw [z]; exact hil
      rw [upd_ne (Nat.ne_of_lt hb')]
      exact (hf b hb).1
  done := by
    intro X hP hw hK hc i pins s σ H E I hf st hg
    subst hP hw hK
    obtain ⟨⟨old, he⟩, hit, hne, hai, hea⟩ := st
    obtain ⟨xs, hq, hx⟩ := hg
    obtain ⟨its, rv, p, hz⟩ := I.tuple hq
    obtain ⟨f0, f1, f2, f3, f4, f5⟩ := hf it (by simp)
    have hl := rv.length
    have ei : i = its.toArray.size := by
      rw [List.size_toArray, ← hl]
      exact hx.symm
    rw [ei] at hit
    exact wpAny_pyNext_enum_endD (Draws.tuple (A := X.A.in1) (I.ok.hd hc) it a hai its.toArray) he ⟨hit, p⟩
      fun h' eb => ⟨rfl, I.turned (t' := s.toks) (fun b o hb q => eb b o hb q) f0 f1 f3 f4 f5⟩
  self := fun A i s Q E st h => let ⟨⟨_, he⟩, _⟩ := st; wpAny_pyIter_enum he h
def iEnT (K : PySem.W.Frag) (ta : TA) : TI := fun σ H R => ta σ H fun vs H1 => ∃ a xs, vs = [.ref a] ∧ SqT K H1 a xs ∧ R (ItE K a) H1
theorem pi_enT {X : Cx} {e : Expr} {ta : TA} {p pos tpos : Pos} {elts : List Expr} {kk : Nat} (hg : Gl X "enumerate") (hm : X.mg "enumerate" = none) (ha : PA X [e] ta)
    (hs : starEach [e] X.env = [(false, eval e X.env)] := by rfl) :
    PI X (.Tuple elts kk tpos) (.Call (.Name "enumerate" p) [e] [] pos) (iEnT X.K ta) := by
  constructor
  intro pins s σ H R I h
  refine Call_ (ld_blt I hg hm boot_enumerate (PyProof.Rows.callWith_type1 (thn (ha.run pos pins s σ H _ I h) ?_) hs rfl))
  rintro us s1 ⟨vs, H1, I1, r1, a, xs, ex, hq, q⟩
  subst ex
  cases r1 with
  | cons r rr =>
    cases rr
    cases r
    obtain ⟨its, rv, p', hz⟩ := I1.tuple hq
    refine call_en1 (begins_tuple a its.toArray) p' ?_
    intro h' he hit hsz hk
    refine wpAny_pyIter_enum he ?_
    have J : Inv X pins σ H1 { s1 with heap := h' } := I1.kept (t' := s1.toks) hk
    have hal : a < s1.heap.objs.size := by
      obtain ⟨o, ho, _⟩ := p'
      exact Heap.lt_size ho
    refine ⟨s1.heap.objs.size + 1, [s1.heap.objs.size + 1, s1.heap.objs.size], _, _, H1, rfl, J, turn_enumT a (s1.heap.objs.size + 1) s1.heap.objs.size,
      ⟨⟨.none, he⟩, ⟨_, hit, rfl, rfl⟩, Nat.succ_ne_self _, Nat.ne_of_lt hal, Nat.ne_of_gt (Nat.lt_succ_of_lt hal)⟩, ?_, q⟩
    intro b hb
    have hle : s1.heap.objs.size ≤ b := by
      rcases (show b = s1.heap.objs.size + 1 ∨ b = s1.heap.objs.size by simpa using hb) with z | z
      · rw [z]; exact Nat.le_add_right _ _
      · rw [z]; exact Nat.le_refl _
    exact I1.fpOk hle (I1.hok.fresh hle)
theorem walk_enT {K : PySem.W.Frag} {a : Addr} {xs : List V} : Walk (ItE K a) xs.length (fun H => SqT K H a xs) (YPair (fun i => some (.int (i : Nat))) (fun i => xs[i]?)) := by
  constructor
  · exact fun i _ hi q => ⟨xs, xs[i], q, by simp [hi]⟩
  · exact fun _ q => ⟨xs, q, rfl⟩
  · rintro i H v H' _ q ⟨T, x, h1, h2, h3, h4⟩
    exact ⟨T, .int (i : Nat), x, h1, h2, h3, rfl, h4 xs q⟩
end Gd
set_option Elab.async false
set_option linter.all false
set_option maxRecDepth 100000
set_option maxHeartbeats 2000000
/-! itertools.combinations(range(n), r) -/
namespace CpComb
open PySem PySem.Spec
open Sem (wp)

theorem mro_comb : mroOf (.type "itertools.combinations") = pure [.type "itertools.combinations", .type "object"] := by rw [mroOf_type]; kernel_rfl
theorem lookup_comb_new : typeLookup (.type "itertools.combinations") "__new__" = pure (some (.builtin "itertools.combinations.__new__")) := by rw [typeLookup_type, builtinLookup_eq_fast]; kernel_rfl
theorem slot_comb_init : Slot "itertools.combinations" "__init__" "object.__init__" :=
  .of (owner := "object") (n := "__init__") (by rw [typeLookup_type, builtinLookup_eq_fast]; kernel_rfl) (by decide +kernel) (by decide +kernel) (by decide +kernel)
    (by first | exact .inl (by decide +kernel) | exact .inr (by decide +kernel)) (by rw [isSubtype_type]; kernel_rfl)
theorem sub_comb : isSubtype (.type "itertools.combinations") (.type "itertools.combinations") = pure true := by rw [isSubtype_type]; kernel_rfl
theorem called_comb : TypeCalled "itertools.combinations" "itertools.combinations.__new__" "object.__init__" :=
  ⟨by decide +kernel, by decide +kernel, ⟨_, _, mro_comb⟩, madeBy_type mro_comb lookup_comb_new (by decide +kernel), by decide +kernel, sub_comb, slot_comb_init⟩
theorem typeCall_comb_2 (a b : Value) : checkTypeCall "itertools.combinations" ⟨[a, b], []⟩ = pure () := by kernel_rfl
theorem newCall_comb_2 (a b : Value) : checkBuiltinCall "itertools.combinations.__new__" ⟨[.type "itertools.combinations", a, b], []⟩ = pure () := by kernel_rfl
theorem entry_comb_new : entryFor table "itertools.combinations.__new__" = some Builtin.«itertools.combinations.__new__» := entryFor_of_tree (by kernel_rfl)
theorem plain_comb_new : plainId "itertools.combinations.__new__" = true := by decide +kernel
theorem slot_comb_iter : Slot "itertools.combinations" "__iter__" "itertools.combinations.__iter__" :=
  .of (owner := "itertools.combinations") (n := "__iter__") (by rw [typeLookup_type, builtinLookup_eq_fast]; kernel_rfl) (by decide +kernel) (by decide +kernel) (by decide +kernel)
    (by first | exact .inl (by decide +kernel) | exact .inr (by decide +kernel)) sub_comb
theorem slot_comb_next : Slot "itertools.combinations" "__next__" "itertools.combinations.__next__" :=
  .of (owner := "itertools.combinations") (n := "__next__") (by rw [typeLookup_type, builtinLookup_eq_fast]; kernel_rfl) (by decide +kernel) (by decide +kernel) (by decide +kernel)
    (by first | exact .inl (by decide +kernel) | exact .inr (by decide +kernel)) sub_comb
theorem entry_comb_iter : entryFor table "itertools.combinations.__iter__" = some Builtin.«dict_keyiterator.__iter__» :=
  entryFor_alias (id' := "dict_keyiterator.__iter__") (by kernel_rfl) (by first | rfl | decide +kernel | (unfold String.splitOn; simp +decide [String.splitOnAux])) (by decide +kernel) (by kernel_rfl)
theorem entry_comb_next : entryFor table "itertools.combinations.__next__" = some Builtin.«itertools.combinations.__next__» := entryFor_of_tree (by kernel_rfl)
theorem owner_comb : Manifest.owners.lookup (String.ofList ['s', 'n', 'o', 'i', 't', 'a', 'n', 'i', 'b', 'm', 'o', 'c', '.', 's', 'l', 'o', 'o', 't', 'r', 'e', 't', 'i'].reverse) = some Manifest.sig_itertools_combinations := by kernel_rfl
theorem args_comb_iter (a : Value) : argsOk "itertools.combinations.__iter__" ⟨[a], []⟩ := by
  unfold argsOk; rw [signature?_of (id := "itertools.combinations.__iter__") (n := ['_', '_', 'r', 'e', 't', 'i', '_', '_']) (o := ['s', 'n', 'o', 'i', 't', 'a', 'n', 'i', 'b', 'm', 'o', 'c', '.', 's', 'l', 'o', 'o', 't', 'r', 'e', 't', 'i']) (by kernel_rfl) owner_comb]; kernel_rfl
theorem args_comb_next (a : Value) : argsOk "itertools.combinations.__next__" ⟨[a], []⟩ := by
  unfold argsOk; rw [signature?_of (id := "itertools.combinations.__next__") (n := ['_', '_', 't', 'x', 'e', 'n', '_', '_']) (o := ['s', 'n', 'o', 'i', 't', 'a', 'n', 'i', 'b', 'm', 'o', 'c', '.', 's', 'l', 'o', 'o', 't', 'r', 'e', 't', 'i']) (by kernel_rfl) owner_comb]; kernel_rfl
theorem noDict_comb : typeHasDict (.type "itertools.combinations") = false := by decide +kernel

/-- the object: its pool, whether it has begun, what it gave last, its places -/
abbrev IsComb (h : Heap) (it pa : Addr) (st : Int) (last : Value) (ix : List Nat) : Prop :=
  h.get? it = some { cls := .type "itertools.combinations", dict := none, data := .fields ([.ref pa, rawInt st, last] ++ ix.map fun (i : Nat) => rawInt i).toArray, slots := #[] }
/-- the places behind these -/
def nx (n : Nat) (ix : List Nat) : Option (List Nat) :=
  match (List.range ix.length).reverse.find? fun i => ix.getD i 0 != i + n - ix.length with
  | none => none
  | some i => some (ix.take i ++ (List.range (ix.length - i)).map (ix.getD i 0 + 1 + ·))
/-- the places at the i-th turn -/
def itn (n r : Nat) : Nat → Option (List Nat)
  | 0 => if r ≤ n then some (List.range r) else none
  | i + 1 => (itn n r i).bind (nx n)
theorem nx_len {n : Nat} {ix jx : List Nat} (h : nx n ix = some jx) : jx.length = ix.length := by
  unfold nx at h
  split at h
  · cases h
  · next i e =>
    cases h
    have := List.mem_of_find?_eq_some e
    simp at this
    simp
    omega
end CpComb
set_option Elab.async false
set_option linter.all false
set_option maxRecDepth 100000
set_option maxHeartbeats 2000000
namespace CpComb
open PySem PySem.Spec PySem.Builtin.Itertools
open Sem (wp)
section
variable {prog : Program} {w : World} {A : Around} {E : Value → Shared → Prop} {s : Shared}
theorem rangeSz (n : Nat) : Builtin.Range.rangeSize 0 (n : Int) 1 = n := by
  rw [rangeSize_one]
  split <;> omega
theorem smallOne (n : Nat) (h : n < 2 ^ 62) : Builtin.Range.small 0 (n : Int) 1 = true := small_one (by decide) (by decide) (by omega) (by omega)
/-- the object as it is made -/
def combObj (pa : Addr) (n k : Nat) : Obj := { cls := .type "itertools.combinations", data := .fields ([.ref pa, rawInt (if k > n then 2 else 0), Value.none] ++ (List.range k).map fun (i : Nat) => rawInt i).toArray }
def poolObj (vs : Array Value) : Obj := { cls := .type "tuple", data := .seq vs }
theorem code_comb_new {a : Addr} {n : Nat} {k : Nat} {t u v t' : Tok} {Q₁ : Value → Shared → Prop} (hh : A.handled = none) (hr : IsRange s.heap a 0 (n : Int) 1 t u v) (hn : n ≤ 1000) (hk : k ≤ 1000)
    (h : ∀ (h1 : Heap) (vs : Array Value) (tk : Tok), (∀ b o, s.heap.get? b = some o → h1.get? b = some o) → ItemsOf (fun i v => ∃ t, v = .int (0 + (i : Nat) * 1) t) vs n →
      Q₁ (.ref (h1.objs.size + 1)) { s with heap := (h1.push (poolObj vs)).push (combObj h1.objs.size n k), toks := tk }) :
    codeAny (model prog w) A (.call (.builtin "itertools.combinations.__new__") ⟨[.type "itertools.combinations", .ref a, .int (k : Int) t'], []⟩) (wants Q₁ E) s := by
  refine codeAny_of_tree ?_
  show wpAny _ A.in1 (do checkBuiltinCall "itertools.combinations.__new__" ⟨[.type "itertools.combinations", .ref a, .int (k : Int) t'], []⟩; again (.builtin "itertools.combinations.__new__" ⟨[.type "itertools.combinations", .ref a, .int (k : Int) t'], []⟩)) _ _ s
  refine wpAny_bind (wpAny_of_eq (newCall_comb_2 _ _) (wpAny_pure ⟨plainId_quiet plain_comb_new _, codeAny_builtin entry_comb_new ?_⟩))
  rw [Around.under_plainId plain_comb_new _]
  unfold Builtin.«itertools.combinations.__new__»
  refine wpAny_bind ?_
  show wpAny _ _ (itClassAndRest "combinations" ⟨[.type "itertools.combinations", .ref a, .int (k : Int) t'], []⟩ >>= _) _ _ _
  have e1 : itClassAndRest "combinations" ⟨[.type "itertools.combinations", .ref a, .int (k : Int) t'], []⟩ = pure (.type "itertools.combinations", [.ref a, .int (k : Int) t']) := by
    have e0 : ("itertools." ++ "combinations" : String) = "itertools.combinations" := by decide +kernel
    unfold itClassAndRest
    simp only [e0, sub_comb]
    rfl
  have e2 : itBindNamed "combinations" ["iterable", "r"] 2 2 [.ref a, .int (k : Int) t'] [] = pure [some (.ref a), some (.int (k : Int) t')] := by
    unfold itBindNamed
    rfl
  refine wpAny_bind (wpAny_of_eq e1 ?_)
  refine wpAny_bind (wpAny_of_eq e2 ?_)
  try dsimp only
  have e3 : itSsizeArg (.int (k : Int) t') = pure (k : Int) := by
    unfold itSsizeArg
    have : asIndex (.int (k : Int) t') = pure (k : Int) := by rfl
    rw [this]
    have g : ((decide ((k : Int) < -(2 ^ 63 : Int)) || decide ((k : Int) ≥ 2 ^ 63)) = true) = False := by
      simp only [Bool.or_eq_true, decide_eq_true_eq, eq_iff_iff, iff_false]
      omega
    simp only [pure_bind, g, if_false]
  refine wpAny_bind (wpAny_of_eq e3 ?_)
  have hh1 : A.in1.handled = none := hh
  refine wpAny_bind (L2.collect_range hh1 hr (smallOne n (by omega)) (rangeSz n) (by omega) fun h' tk acc kept items => ?_)
  have g1 : ((k : Int) < 0) = False := by simp only [eq_iff_iff, iff_false]; omega
  have g2 : (itTooMany (k : Int) = true) = False := by
    unfold itTooMany
    simp only [decide_eq_true_eq, eq_iff_iff, iff_false]
    omega
  simp only [g1, g2, if_false]
  have hsz : acc.toList.length = n := by rw [Array.length_toList]; exact items.1
  refine wpAny_bind (wpAny_newTuple (wpAny_pure ?_) (by rw [hsz]; exact Nat.le_trans hn (by rw [sizeLine_eq]; decide)))
  try dsimp only
  rw [hsz, Int.toNat_natCast, Array.toArray_toList]
  refine wpAny_bind ?_
  unfold itNewRecord
  rw [noDict_comb]
  simp only [Bool.not_false, if_true]
  refine wpAny_newObj_type (wpAny_pure ?_) ?_
  · have e4 : (h'.push { cls := .type "tuple", data := .seq acc }).objs.size = h'.objs.size + 1 := Heap.size_push ..
    show Q₁ (.ref (h'.push { cls := .type "tuple", data := .seq acc }).objs.size) _
    rw [e4]
    exact h h' acc tk kept items
  · show (_ : List Value).toArray.size ≤ _
    rw [List.size_toArray, List.length_append, List.length_map, List.length_range, sizeLine_eq]
    show 3 + k ≤ _
    omega
theorem call_comb {a : Addr} {n : Nat} {k : Nat} {t u v t' : Tok} {Q : Value → Shared → Prop} (hh : A.handled = none) (hr : IsRange s.heap a 0 (n : Int) 1 t u v) (hn : n ≤ 1000) (hk : k ≤ 1000)
    (h : ∀ (h1 : Heap) (vs : Array Value) (tk : Tok), (∀ b o, s.heap.get? b = some o → h1.get? b = some o) → ItemsOf (fun i v => ∃ t, v = .int (0 + (i : Nat) * 1) t) vs n →
      Q (.ref (h1.objs.size + 1)) { s with heap := (h1.push (poolObj vs)).push (combObj h1.objs.size n k), toks := tk }) :
    wpAny (model prog w) A (call (.type "itertools.combinations") [.ref a, .int (k : Int) t']) Q E s := by
  refine callType_codes (Q₁ := fun obj s₁ => s₁.TypeIs obj "itertools.combinations" ∧ Q obj s₁) called_comb (typeCall_comb_2 _ _) F.entry_object_init (code_comb_new (A := A.in1) hh hr hn hk fun h1 vs tk kept items => ⟨?_, h h1 vs tk kept items⟩) fun obj s₁ hq => ⟨hq.1, F.args_object_init_3 obj _ _, ?_⟩
  · refine ⟨combObj h1.objs.size n k, ?_, rfl⟩
    have e4 : (h1.push (poolObj vs)).objs.size = h1.objs.size + 1 := Heap.size_push ..
    rw [← e4]
    exact Heap.get?_push_size _ rfl
  · exact object_init_meets (self := obj) (rest := [.ref a, .int (k : Int) t']) called_comb.init.lookup called_comb.made (by decide +kernel) prog w A.in1 (wants (fun r s₂ => r = .none ∧ Q obj s₂) E) s₁ ⟨hq.1, rfl, hq.2⟩
theorem iter_comb {it pa : Addr} {st : Int} {last : Value} {ix : List Nat} {Q : Value → Shared → Prop} (hit : IsComb s.heap it pa st last ix) (h : Q (.ref it) s) : wpAny (model prog w) A (pyIter (.ref it)) Q E s := by
  have hT : s.TypeIs (.ref it) "itertools.combinations" := ⟨_, hit, rfl⟩
  refine wpAny_pyIter_slot hT slot_comb_iter (wpAny_call_entry slot_comb_iter hT entry_comb_iter ?_ (args_comb_iter _))
  show wpAny _ _ (ret (.ref it)) _ _ s
  exact wpAny_pure ⟨_, rfl, "itertools.combinations", _, hT, slot_comb_next.lookup, h⟩
end
end CpComb
set_option Elab.async false
set_option linter.all false
set_option maxRecDepth 100000
set_option maxHeartbeats 2000000
namespace CpComb
open PySem PySem.Spec PySem.Builtin.Itertools
open Sem (wp)
theorem natsOf (ix : List Nat) : ((ix.map fun (i : Nat) => rawInt i).map fun | .int n _ => n.toNat | _ => 0) = ix := by
  rw [List.map_map]
  conv => rhs; rw [← List.map_id ix]
  refine List.map_congr_left fun i _ => ?_
  show ((i : Int)).toNat = i
  exact Int.toNat_natCast i
section
variable {prog : Program} {w : World} {A : Around} {E : Value → Shared → Prop} {s : Shared}
/-- what the object gives at these places -/
def pickd (vs : Array Value) (ix : List Nat) : List Value := ix.map fun i => vs.getD i .none
theorem numbers_from {M : Model} {it pa : Addr} {st : Int} {last : Value} {ix : List Nat} {Q : List Nat → Shared → Prop} (hit : IsComb s.heap it pa st last ix) (h : Q ix s) : wpAny M A (itNumbersFrom (.ref it) 3) Q E s := by
  unfold itNumbersFrom
  refine wpAny_bind (wpAny_load hit ?_)
  refine wpAny_pure ?_
  have key : ∀ l, l = ix → Q l s := by
    rintro _ rfl
    exact h
  exact key _ (natsOf ix)
theorem comb_hand {it pa : Addr} {last : Value} {vs : Array Value} {jx : List Nat} {Q : Option Value → Shared → Prop} (hit : IsComb s.heap it pa 1 last jx) (hpa : s.heap.get? pa = some (poolObj vs)) (hne : it ≠ pa)
    (hl : jx.length ≤ 1000)
    (hQ : ∀ h', IsComb h' it pa 1 (.ref s.heap.objs.size) jx → h'.get? s.heap.objs.size = some (poolObj (pickd vs jx).toArray) → h'.objs.size = s.heap.objs.size + 1 → (∀ b o, b ≠ it → s.heap.get? b = some o → h'.get? b = some o) → Q (some (.ref s.heap.objs.size)) { s with heap := h' }) :
    wpAny (model prog w) A (do
      let result ← (do let items ← itPoolItems (.ref pa); newTuple (jx.map fun i => items.getD i .none))
      let before ← field (.ref it) 2
      setField (.ref it) 2 result
      letGo [before] [result]
      ret result) (fun fin s' => ∃ v, fin = .done (.ret v) ∧ Q (some v) s') E s := by
  refine wpAny_bind (wpAny_bind ?_)
  unfold itPoolItems
  refine wpAny_bind (wpAny_seqItems hpa rfl (wpAny_pure ?_))
  refine wpAny_newTuple ?_ (by rw [List.length_map]; exact Nat.le_trans hl (by rw [sizeLine_eq]; decide))
  have hlt : it < s.heap.objs.size := Heap.lt_size hit
  have hit2 : IsComb (s.heap.push { cls := .type "tuple", data := .seq (jx.map fun i => vs.getD i .none).toArray }) it pa 1 last jx := Heap.get?_push_of_some _ hit
  refine wpAny_bind (wpAny_field (s := { s with heap := s.heap.push _ }) hit2 rfl (x := last) rfl ?_)
  refine wpAny_bind (wpAny_setField_rec (s := { s with heap := s.heap.push _ }) hit2 (by simp) fun h' hit3 sb => ?_)
  refine wpAny_bind (wpAny_letGo (wpAny_pure ⟨_, rfl, ?_⟩))
  refine hQ h' ?_ ?_ ?_ ?_
  · have e : ((([Value.ref pa, rawInt 1, last] ++ jx.map fun (i : Nat) => rawInt i).toArray).setIfInBounds 2 (.ref s.heap.objs.size)) = ([Value.ref pa, rawInt 1, .ref s.heap.objs.size] ++ jx.map fun (i : Nat) => rawInt i).toArray := by
      apply Array.ext'
      simp
    rw [e] at hit3
    exact hit3
  · exact sb.extBut _ _ (Nat.ne_of_gt hlt) (Heap.get?_push_size _ rfl)
  · have e := sb.1
    rw [e]
    exact Heap.size_push ..
  · exact fun b o hb e => sb.extBut _ _ hb (Heap.get?_push_of_some _ e)
theorem comb_item {it pa : Addr} {st : Int} {last : Value} {vs : Array Value} {ix jx : List Nat} {Q : Option Value → Shared → Prop} (hit : IsComb s.heap it pa st last ix) (hpa : s.heap.get? pa = some (poolObj vs)) (hne : it ≠ pa)
    (hl : ix.length ≤ 1000)
    (hj : (st = 0 ∧ jx = ix) ∨ (st = 1 ∧ nx vs.size ix = some jx))
    (hQ : ∀ h', IsComb h' it pa 1 (.ref s.heap.objs.size) jx → h'.get? s.heap.objs.size = some (poolObj (pickd vs jx).toArray) → h'.objs.size = s.heap.objs.size + 1 → (∀ b o, b ≠ it → s.heap.get? b = some o → h'.get? b = some o) → Q (some (.ref s.heap.objs.size)) { s with heap := h' }) :
    wpAny (model prog w) A (callSpecial? (.ref it) "__next__") Q E s := by
  have hT : s.TypeIs (.ref it) "itertools.combinations" := ⟨_, hit, rfl⟩
  refine wpAny_callSpecial?_slot (name := Str.ofString "__next__") hT slot_comb_next (wpAny_call_entry slot_comb_next hT entry_comb_next ?_ (args_comb_next _))
  show wpAny _ _ (field (.ref it) 0 >>= _) _ _ s
  refine wpAny_bind (wpAny_field hit rfl (x := .ref pa) rfl ?_)
  show wpAny _ _ (itNumbersFrom (.ref it) 3 >>= _) _ _ s
  refine wpAny_bind (numbers_from hit ?_)
  show wpAny _ _ (itIntField (.ref it) 1 >>= _) _ _ s
  refine wpAny_bind ?_
  unfold itIntField
  refine wpAny_bind (wpAny_field hit rfl (x := rawInt st) rfl (wpAny_pure ?_))
  rcases hj with ⟨rfl, rfl⟩ | ⟨rfl, hn⟩
  · refine wpAny_bind (wpAny_setField_rec hit (by simp) fun h1 hit1 sb => ?_)
    have e2 : ((([Value.ref pa, rawInt 0, last] ++ jx.map fun (i : Nat) => rawInt i).toArray).setIfInBounds 1 (rawInt 1)) = ([Value.ref pa, rawInt 1, last] ++ jx.map fun (i : Nat) => rawInt i).toArray := by
      apply Array.ext'
      simp
    rw [e2] at hit1
    have hz : h1.objs.size = s.heap.objs.size := sb.1
    refine comb_hand (s := { s with heap := h1 }) hit1 (sb.extBut _ _ hne.symm hpa) hne hl fun h' a1 a2 a3 a4 => ?_
    rw [show ({ s with heap := h1 } : Shared).heap.objs.size = s.heap.objs.size from hz] at a1 a2 a3 ⊢
    exact hQ h' a1 a2 a3 fun b o hb e => a4 b o hb (sb.extBut _ _ hb e)
  · refine wpAny_bind ?_
    unfold itPoolItems
    refine wpAny_bind (wpAny_seqItems hpa rfl (wpAny_pure ?_))
    show wpAny _ _ (match nx vs.size ix with | some next => _ | none => _) _ _ _
    rw [hn]
    show wpAny _ _ (itSetNumbersFrom (.ref it) 3 jx >>= _) _ _ _
    refine wpAny_bind ?_
    unfold itSetNumbersFrom
    have hl' : jx.length = ix.length := nx_len hn
    refine wpAny_updateFields hit rfl ?_ ?_
    · have hit1 : IsComb (s.heap.update it (Obj.mapFields fun fs => fs.extract 0 3 ++ (jx.map fun (n : Nat) => rawInt n).toArray)) it pa 1 last jx := by
        have e := Heap.get?_update_self (Obj.mapFields fun fs => fs.extract 0 3 ++ (jx.map fun (n : Nat) => rawInt n).toArray) hit rfl
        refine e.trans ?_
        show some (Obj.mk _ _ (.fields (([Value.ref pa, rawInt 1, last] ++ ix.map fun (i : Nat) => rawInt i).toArray.extract 0 3 ++ (jx.map fun (n : Nat) => rawInt n).toArray)) _) = _
        have e2 : (([Value.ref pa, rawInt 1, last] ++ ix.map fun (i : Nat) => rawInt i).toArray.extract 0 3 ++ (jx.map fun (n : Nat) => rawInt n).toArray) = ([Value.ref pa, rawInt 1, last] ++ jx.map fun (i : Nat) => rawInt i).toArray := by
          apply Array.ext'
          simp
        rw [e2]
      have sb : Heap.SameBut it s.heap (s.heap.update it (Obj.mapFields fun fs => fs.extract 0 3 ++ (jx.map fun (n : Nat) => rawInt n).toArray)) := Heap.SameBut.update ..
      generalize s.heap.update it (Obj.mapFields fun fs => fs.extract 0 3 ++ (jx.map fun (n : Nat) => rawInt n).toArray) = h1 at hit1 sb ⊢
      have hz : h1.objs.size = s.heap.objs.size := sb.1
      refine comb_hand (s := { s with heap := h1 }) hit1 (sb.extBut _ _ hne.symm hpa) hne (by omega) fun h' a1 a2 a3 a4 => ?_
      rw [show ({ s with heap := h1 } : Shared).heap.objs.size = s.heap.objs.size from hz] at a1 a2 a3 ⊢
      exact hQ h' a1 a2 a3 fun b o hb e => a4 b o hb (sb.extBut _ _ hb e)
    · rw [Array.size_append, Array.size_extract, List.size_toArray, List.size_toArray, List.length_map, sizeLine_eq]
      omega
theorem stop_now {it : Addr} {P : Fin → Shared → Prop} (hh : A.handled = none)
    (hQ : ∀ e h', CpRep.StopE e h' → Heap.ExtBut it s.heap h' → E e { s with heap := h' }) : wpAny (model prog w) A (itStop : Sem Fin) P E s := by
  unfold itStop
  refine wpAny_bind ?_
  simp only [newExc, newTuple]
  refine wpAny_bind (wpAny_newObj_type ?_ (by size_fits))
  refine wpAny_bind (m := firstArgMember _ _) (wpAny_of_eq (a := Value.none) (by first | rfl | (simp only [firstArgMember]; rfl)) ?_)
  refine wpAny_newObj_type ?_ (by size_fits)
  simp only [raiseNew]
  refine wpAny_bind (wpAny_handled ?_)
  rw [hh]
  refine wpAny_bind (wpAny_pure (wpAny_throw ?_))
  exact hQ _ _ ⟨_, _, _, rfl, Heap.get?_push_size _ rfl, rfl, rfl, rfl⟩ (((Heap.ExtBut.refl it s.heap).push _).push _)
theorem comb_end {it pa : Addr} {st : Int} {last : Value} {vs : Array Value} {ix : List Nat} {Q : Option Value → Shared → Prop} (hh : A.handled = none) (hit : IsComb s.heap it pa st last ix) (hpa : s.heap.get? pa = some (poolObj vs))
    (hj : st = 2 ∨ (st = 1 ∧ nx vs.size ix = none))
    (hQ : ∀ e h', CpRep.StopE e h' → Heap.ExtBut it s.heap h' → E e { s with heap := h' }) : wpAny (model prog w) A (callSpecial? (.ref it) "__next__") Q E s := by
  have hT : s.TypeIs (.ref it) "itertools.combinations" := ⟨_, hit, rfl⟩
  refine wpAny_callSpecial?_slot (name := Str.ofString "__next__") hT slot_comb_next (wpAny_call_entry slot_comb_next hT entry_comb_next ?_ (args_comb_next _))
  show wpAny _ _ (field (.ref it) 0 >>= _) _ _ s
  refine wpAny_bind (wpAny_field hit rfl (x := .ref pa) rfl ?_)
  show wpAny _ _ (itNumbersFrom (.ref it) 3 >>= _) _ _ s
  refine wpAny_bind (numbers_from hit ?_)
  show wpAny _ _ (itIntField (.ref it) 1 >>= _) _ _ s
  refine wpAny_bind ?_
  unfold itIntField
  refine wpAny_bind (wpAny_field hit rfl (x := rawInt st) rfl (wpAny_pure ?_))
  have hh1 : A.in1.handled = none := hh
  rcases hj with rfl | ⟨rfl, hn⟩
  · exact wpAny_bind (wpAny_rule (stop_now hh1 hQ))
  · refine wpAny_bind ?_
    unfold itPoolItems
    refine wpAny_bind (wpAny_seqItems hpa rfl (wpAny_pure ?_))
    show wpAny _ _ (match nx vs.size ix with | some next => _ | none => _) _ _ _
    rw [hn]
    show wpAny _ _ (setField (.ref it) 1 (rawInt 2) >>= _) _ _ _
    refine wpAny_bind (wpAny_setField_rec hit (by simp) fun h1 hit1 sb => ?_)
    exact stop_now (s := { s with heap := h1 }) hh1 fun e h' q eb => hQ e h' q (sb.extBut.trans eb)
end
end CpComb
set_option Elab.async false
set_option linter.all false
set_option maxRecDepth 100000
set_option maxHeartbeats 2000000
namespace CpComb
open PySem PySem.Spec PySem.Builtin.Itertools
open Sem (wp)
section
variable {prog : Program} {w : World} {A : Around} {E : Value → Shared → Prop} {s : Shared}
theorem wpAny_pyNext_comb_item {it pa : Addr} {st : Int} {last : Value} {vs : Array Value} {ix jx : List Nat} {Q : Option Value → Shared → Prop} (hit : IsComb s.heap it pa st last ix) (hpa : s.heap.get? pa = some (poolObj vs)) (hne : it ≠ pa)
    (hl : ix.length ≤ 1000)
    (hj : (st = 0 ∧ jx = ix) ∨ (st = 1 ∧ nx vs.size ix = some jx))
    (hQ : ∀ h', IsComb h' it pa 1 (.ref s.heap.objs.size) jx → h'.get? s.heap.objs.size = some (poolObj (pickd vs jx).toArray) → h'.objs.size = s.heap.objs.size + 1 → (∀ b o, b ≠ it → s.heap.get? b = some o → h'.get? b = some o) → Q (some (.ref s.heap.objs.size)) { s with heap := h' }) :
    wpAny (model prog w) A (pyNext (.ref it)) Q E s := by
  unfold pyNext
  refine wpAny_bind (wpAny_attempt (comb_item hit hpa hne hl hj fun h' a1 a2 a3 a4 => ?_))
  exact wpAny_pure (hQ h' a1 a2 a3 a4)
theorem wpAny_pyNext_comb_end {it pa : Addr} {st : Int} {last : Value} {vs : Array Value} {ix : List Nat} {Q : Option Value → Shared → Prop} (hh : A.handled = none) (hit : IsComb s.heap it pa st last ix) (hpa : s.heap.get? pa = some (poolObj vs))
    (hj : st = 2 ∨ (st = 1 ∧ nx vs.size ix = none))
    (hQ : ∀ h', Heap.ExtBut it s.heap h' → Q none { s with heap := h' }) : wpAny (model prog w) A (pyNext (.ref it)) Q E s := by
  unfold pyNext
  refine wpAny_bind (wpAny_attempt (comb_end hh hit hpa hj fun e h' q eb => ?_))
  obtain ⟨a, o, vs, rfl, ho, hc, _⟩ := q
  refine wpAny_bind (wpAny_isInstance (T := "StopIteration") (b := true) ⟨o, ho, hc⟩ isSubtype_stop ?_)
  exact wpAny_pure (hQ _ eb)
end
/-- all places are places -/
def CombOk (n r : Nat) : Prop := ∀ i ix, itn n r i = some ix → ix.length = r ∧ ∀ j ∈ ix, j < n
end CpComb
namespace L2
open PySem PySem.Spec PyProof.Rows CpComb
/-- combinations(range(n), r) -/
def ItC (n r : Nat) : It :=
  ⟨fun i _ => (itn n r i).isSome = true, fun i H v H' => ∃ T ix, itn n r i = some ix ∧ v = .ref T ∧ H T = none ∧ H' = upd H T (.tup (ix.map fun j => V.int (j : Nat))), fun i _ => itn n r i = none⟩
def CombAt (n r : Nat) (it pa : Addr) (i : Nat) (h : Heap) : Prop := ∃ (st : Int) (last : Value) (ix : List Nat) (vs : Array Value), IsComb h it pa st last ix ∧ h.get? pa = some (poolObj vs) ∧ ItemsOf (fun i v => ∃ t, v = .int (0 + (i : Nat) * 1) t) vs n ∧ it ≠ pa ∧ ix.length = r ∧
  (i = 0 → (st = if r > n then 2 else 0) ∧ ix = List.range r) ∧ (∀ k, i = k + 1 → st = 1 ∧ itn n r k = some ix)
theorem vals_pick {n : Nat} {vs : Array Value} (hv : ItemsOf (fun i v => ∃ t, v = .int (0 + (i : Nat) * 1) t) vs n) : ∀ (jx : List Nat), (∀ j ∈ jx, j < n) → Vals (jx.map fun j => V.int (j : Nat)) (pickd vs jx)
  | [], _ => .nil
  | j :: jx, h => by
    refine .cons ?_ (vals_pick hv jx fun k hk => h k (List.mem_cons_of_mem _ hk))
    have hj := h j (List.mem_cons_self ..)
    have hs : j < vs.size := by rw [hv.1]; exact hj
    obtain ⟨t, e⟩ := hv.2 j vs[j] (Array.getElem?_eq_getElem hs)
    have e2 : vs.getD j .none = .int (0 + (j : Nat) * 1) t := by
      rw [← e]
      exact (Array.getElem_eq_getD _).symm
    show RelV _ (vs.getD j .none)
    rw [e2]
    exact ⟨t, by simp⟩
theorem turn_comb {P : Program} {w : World} {K : PySem.W.Frag} {tg : Expr} {n r : Nat} (it pa : Addr) (hr : r ≤ 1000) (ok : CombOk n r) : Turn P w K tg (ItC n r) [it, pa] it (CombAt n r it pa) where
  mem := by simp
  obj := fun i h st b hb => by
    obtain ⟨s1, last, ix, vs, h1, h2, _⟩ := st
    have e' : b = it ∨ b = pa := by simpa using hb
    rcases e' with z | z
    · rw [z]; exact ⟨_, h1, fun v q => nomatch q⟩
    · rw [z]; exact ⟨_, h2, fun v q => nomatch q⟩
  keep := fun i h h' st k => by
    obtain ⟨s1, last, ix, vs, h1, h2, q⟩ := st
    exact ⟨s1, last, ix, vs, k it (by simp) _ h1, k pa (by simp) _ h2, q⟩
  item := by
    intro X hP hw hK hc i pins s σ H E I hf st hg
    subst hP hw hK
    obtain ⟨s1, last, ix, vs, h1, h2, hv, hne, hl, z0, zs⟩ := st
    obtain ⟨jx, hjx⟩ := Option.isSome_iff_exists.mp hg
    have hj : (s1 = 0 ∧ jx = ix) ∨ (s1 = 1 ∧ nx vs.size ix = some jx) := by
      cases i with
      | zero =>
        obtain ⟨e1, e2⟩ := z0 rfl
        unfold itn at hjx
        by_cases hrn : r ≤ n
        · rw [if_pos hrn] at hjx
          cases hjx
          exact .inl ⟨by rw [e1, if_neg (by omega)], e2.symm⟩
        · rw [if_neg hrn] at hjx
          cases hjx
      | succ k =>
        obtain ⟨e1, e2⟩ := zs k rfl
        refine .inr ⟨e1, ?_⟩
        have : itn n r (k + 1) = (itn n r k).bind (nx n) := rfl
        rw [this, e2] at hjx
        rw [hv.1]
        exact hjx
    obtain ⟨hjl, hjn⟩ := ok i jx hjx
    have hel : it < s.heap.objs.size := Heap.lt_size h1
    have hpl : pa < s.heap.objs.size := Heap.lt_size h2
    refine wpAny_pyNext_comb_item h1 h2 hne (by omega) hj fun h' a1 a2 a3 a4 => ?_
    have rv := vals_pick hv jx hjn
    have new : ObjOk X.prog X.w (upd H s.heap.objs.size (.tup (jx.map fun j => V.int (j : Nat)))) h' s.heap.objs.size (.tup (jx.map fun j => V.int (j : Nat))) :=
      ⟨by rw [List.length_map, sizeLine_eq]; omega, pickd vs jx, rv, ⟨_, a2, rfl, _, rfl⟩⟩
    have I1 : Inv X pins σ (upd H s.heap.objs.size (.tup (jx.map fun j => V.int (j : Nat)))) { s with heap := h', toks := s.toks } :=
      I.turnedNew (ch := [it, pa]) (fun b ob hb q => a4 b ob (fun z => hb (by simp [z])) q) hf (Nat.le_refl _) new
    refine ⟨.ref s.heap.objs.size, rfl, go_of (s := { s with heap := h' }) (n := "itertools.combinations") a1 rfl rfl (by decide) ⟨.ref s.heap.objs.size, _, I1, rfl, ⟨_, jx, hjx, rfl, I.hok.fresh (Nat.le_refl _), rfl⟩, ⟨1, _, jx, vs, a1, a4 _ _ (Ne.symm hne) h2, hv, hne, hjl, fun z => (Nat.succ_ne_zero i z).elim, fun k e => ⟨rfl, by cases e; exact hjx⟩⟩, fun b hb => ?_⟩⟩
    have hb' : b < s.heap.objs.size := by
      have e' : b = it ∨ b = pa := by simpa using hb
      rcases e' with z | z
      · rw [z]; exact hel
      · rw [z]; exact hpl
    rw [upd_ne (Nat.ne_of_lt hb')]
    exact (hf b hb).1
  done := by
    intro X hP hw hK hc i pins s σ H E I hf st hg
    subst hP hw hK
    obtain ⟨s1, last, ix, vs, h1, h2, hv, hne, hl, z0, zs⟩ := st
    obtain ⟨f0, f1, f2, f3, f4, f5⟩ := hf it (by simp)
    have hstop : itn n r i = none := hg
    have hj : s1 = 2 ∨ (s1 = 1 ∧ nx vs.size ix = none) := by
      cases i with
      | zero =>
        obtain ⟨e1, e2⟩ := z0 rfl
        unfold itn at hstop
        by_cases hrn : r ≤ n
        · rw [if_pos hrn] at hstop
          cases hstop
        · exact .inl (by rw [e1, if_pos (by omega)])
      | succ k =>
        obtain ⟨e1, e2⟩ := zs k rfl
        refine .inr ⟨e1, ?_⟩
        have : itn n r (k + 1) = (itn n r k).bind (nx n) := rfl
        rw [this, e2] at hstop
        rw [hv.1]
        exact hstop
    exact wpAny_pyNext_comb_end (I.ok.hd hc) h1 h2 hj fun h' eb => ⟨rfl, I.turned (t' := s.toks) (fun b o hb q => eb b o hb q) f0 f1 f3 f4 f5⟩
  self := fun A i s Q E st h => by
    obtain ⟨s1, last, ix, vs, h1, _⟩ := st
    exact iter_comb h1 h
end L2
set_option Elab.async false
set_option linter.all false
set_option maxRecDepth 100000
set_option maxHeartbeats 2000000
namespace CpComb
open PySem
theorem itn_len {n r : Nat} : ∀ (i : Nat) (ix : List Nat), itn n r i = some ix → ix.length = r
  | 0, ix, h => by
    unfold itn at h
    split at h
    · cases h; exact List.length_range
    · cases h
  | i + 1, ix, h => by
    have e : itn n r (i + 1) = (itn n r i).bind (nx n) := rfl
    rw [e] at h
    cases q : itn n r i with
    | none => rw [q] at h; cases h
    | some jx =>
      rw [q] at h
      rw [nx_len h]
      exact itn_len i jx q
/-- all that it gives, in turn: at most 120 -/
def combL (n r : Nat) : List (List Nat) := (List.range 120).filterMap (itn n r)
theorem itn_past {n r i : Nat} (h : itn n r i = none) : ∀ k, itn n r (i + k) = none
  | 0 => h
  | k + 1 => by
    have e : itn n r (i + (k + 1)) = (itn n r (i + k)).bind (nx n) := rfl
    rw [e, itn_past h k]
    rfl
/-- what is looked at once for each size -/
def combB (n r : Nat) : Bool := (itn n r (combL n r).length).isNone && (List.range (combL n r).length).all (fun i => itn n r i == (combL n r)[i]?) && (combL n r).all (fun ix => ix.all (fun j => decide (j < n)))
theorem combL_get {n r : Nat} (h : combB n r = true) (i : Nat) : itn n r i = (combL n r)[i]? := by
  unfold combB at h
  simp only [Bool.and_eq_true, List.all_eq_true, List.mem_range, beq_iff_eq, Option.isNone_iff_eq_none] at h
  obtain ⟨⟨h1, h2⟩, h3⟩ := h
  by_cases hi : i < (combL n r).length
  · exact h2 i hi
  · have e : i = (combL n r).length + (i - (combL n r).length) := by omega
    rw [e, itn_past h1, List.getElem?_eq_none (by omega)]
theorem combL_ok {n r : Nat} (h : combB n r = true) : CombOk n r := by
  intro i ix e
  refine ⟨itn_len i ix e, ?_⟩
  rw [combL_get h] at e
  unfold combB at h
  simp only [Bool.and_eq_true, List.all_eq_true, decide_eq_true_eq] at h
  exact h.2 ix (List.mem_of_getElem? e)
theorem combB_small {n r : Nat} (hn : n ≤ 8) (hr : r ≤ 3) : combB n r = true := by
  have : (List.range 9).all (fun n => (List.range 4).all fun r => combB n r) = true := by decide +kernel
  simp only [List.all_eq_true, List.mem_range] at this
  exact this n (by omega) r (by omega)
end CpComb
namespace L2
open PySem PySem.Spec PyProof.Rows CpComb
/-- combinations(range(a), b): small n -/
def iComb (ta te : TE) : TI := fun σ H R => ta σ H fun x H1 => ∃ n : Nat, x = .int (n : Int) ∧ n ≤ 8 ∧ te σ H1 fun y H2 => ∃ r : Nat, y = .int (r : Int) ∧ r ≤ 3 ∧ R (ItC n r) H2
theorem pi_comb {X : Cx} {tg a e2 : Expr} {ta te : TE} {p p2 pos pos2 : Pos} (hc : X.calm = true) (hg : Gl X "combinations") (hm : X.mg "combinations" = some (.type "itertools.combinations")) (hg2 : Gl X "range") (hm2 : X.mg "range" = none) (ha : PE X a ta) (he : PE X e2 te)
    (na : starEach [a] X.env = (false, eval a X.env) :: starEach [] X.env := by rfl)
    (hs : starEach [.Call (.Name "range" p2) [a] [] pos2, e2] X.env = (false, eval (.Call (.Name "range" p2) [a] [] pos2) X.env) :: starEach [e2] X.env := by rfl)
    (hs2 : starEach [e2] X.env = (false, eval e2 X.env) :: starEach [] X.env := by rfl) (hpl : (backTo pos (starEach [e2] X.env)).any (·.1) = false := by rfl) :
    PI X tg (.Call (.Name "combinations" p) [.Call (.Name "range" p2) [a] [] pos2, e2] [] pos) (iComb ta te) := by
  refine ⟨fun pins s σ H R I h => ?_⟩
  refine Call_ (ld_glob I hg hm (PyProof.Rows.callWith_type1 (args_cons (Call_ (ld_blt I hg2 hm2 boot_range (PyProof.Rows.callWith_type1 (one_arg ha I h (fun v s2 x H2 I2 r q => ?_) na) na))) hs) hs hpl))
  obtain ⟨n, rfl, hn, q⟩ := q
  obtain ⟨t, rfl⟩ := r
  refine call_range_1 ?_
  have hfp : FpOk X pins H2 s2.heap.objs.size := I2.fpOk (Nat.le_refl _) (I2.hok.fresh (Nat.le_refl _))
  have hrg : IsRange (s2.heap.push { cls := .type "range", data := .fields #[.int 0 s2.toks, .int (n : Int) t, .int 1 (s2.toks + 1)] }) s2.heap.objs.size 0 (n : Int) 1 _ _ _ := IsRange.new _ _ _ _ _ _ _
  have I3 : Inv X pins σ H2 { heap := s2.heap.push { cls := .type "range", data := .fields #[.int 0 s2.toks, .int (n : Int) t, .int 1 (s2.toks + 1)] }, gens := s2.gens, drawn := s2.drawn, toks := s2.toks + 1 + 1, os := s2.os } := I2.kept fun b u e => Heap.get?_push_of_some _ e
  have I4 := I3.pinned (fp := [s2.heap.objs.size]) (fun b hb => by rw [List.mem_singleton.mp hb]; exact hfp) (fun b hb => by obtain rfl := List.mem_singleton.mp hb; exact ⟨_, hrg, fun v z => by cases z⟩)
  have hpin : (s2.heap.objs.size, _) ∈ pinsAt [s2.heap.objs.size] (s2.heap.push { cls := .type "range", data := .fields #[.int 0 s2.toks, .int (n : Int) t, .int 1 (s2.toks + 1)] }) := List.mem_filterMap.mpr ⟨s2.heap.objs.size, List.mem_singleton.mpr rfl, by rw [hrg]; rfl⟩
  refine args_cons (thn (he.run _ _ σ H2 _ I4 q) fun u s3 ⟨y, H3, I5, r3, q3⟩ => args_nil ?_) hs2
  obtain ⟨k, rfl, hk, q3⟩ := q3
  obtain ⟨t3, rfl⟩ := r3
  have hrg3 := (I5.pin _ (List.mem_append_right _ (List.mem_append_right _ hpin))).1
  have I6 : Inv X pins σ H3 s3 := I5.unpinned
  refine call_comb (I6.ok.hd hc) hrg3 (by omega) (by omega) fun h1 vs tk kept items => ?_
  have ok := combB_small hn hk
  have I7 : Inv X pins σ H3 { s3 with heap := h1, toks := tk } := I6.kept kept
  have hp1 : (h1.push (poolObj vs)).objs.size = h1.objs.size + 1 := Heap.size_push ..
  have gp : ((h1.push (poolObj vs)).push (combObj h1.objs.size n k)).get? h1.objs.size = some (poolObj vs) := Heap.get?_push_of_some _ (Heap.get?_push_size _ rfl)
  have gc : ((h1.push (poolObj vs)).push (combObj h1.objs.size n k)).get? (h1.objs.size + 1) = some (combObj h1.objs.size n k) := by
    rw [← hp1]; exact Heap.get?_push_size _ rfl
  have I8 : Inv X pins σ H3 { s3 with heap := (h1.push (poolObj vs)).push (combObj h1.objs.size n k), toks := tk } := I7.kept (t' := tk) fun b o e => Heap.get?_push_of_some _ (Heap.get?_push_of_some _ e)
  refine iter_comb (st := if k > n then 2 else 0) (last := .none) (ix := List.range k) gc ?_
  refine ⟨h1.objs.size + 1, [h1.objs.size + 1, h1.objs.size], CombAt n k (h1.objs.size + 1) h1.objs.size, ItC n k, H3, rfl, I8, turn_comb _ _ (by omega) (combL_ok ok), ⟨_, _, _, vs, gc, gp, items, Nat.succ_ne_self _, List.length_range, fun _ => ⟨rfl, rfl⟩, fun k e => by cases e⟩, fun b hb => ?_, q3⟩
  have hle : h1.objs.size ≤ b := by
    have e' : b = h1.objs.size + 1 ∨ b = h1.objs.size := by simpa using hb
    rcases e' with z | z
    · rw [z]; exact Nat.le_succ _
    · rw [z]; exact Nat.le_refl _
  exact I7.fpOk hle (I7.hok.fresh hle)
end L2
set_option Elab.async false
set_option linter.all false
set_option maxRecDepth 100000
set_option maxHeartbeats 2000000
/-! sorted(xs), xs tuples of ints of any lengths, the first of them () -/
namespace TpS
open PySem PySem.W PySem.Calls PyProof.Rows Builtin
/-- a tuple of these ints -/
def IsTp (h : Heap) (v : Value) (ns : List Int) : Prop := ∃ (a : Addr) (o : Obj) (its : Array Value) (n : Nat), v = .ref a ∧ h.get? a = some o ∧ o.cls = .type "tuple" ∧ o.data = .seq its n ∧ IntsAre its.toList ns
section
variable {prog : Program} {w : World} {A : Around} {E : Value → Shared → Prop} {s : Shared} {M : Model}
theorem IsTp.keeps {h h' : Heap} {v : Value} {ns : List Int} (t : IsTp h v ns) (k : ∀ b o, v = .ref b → h.get? b = some o → h'.get? b = some o) : IsTp h' v ns := by
  obtain ⟨a, o, its, n, rfl, e, q⟩ := t
  exact ⟨a, o, its, n, rfl, k a o rfl e, q⟩
theorem IsTp.type {v : Value} {ns : List Int} (t : IsTp s.heap v ns) : Looks M s.heap (typeOf v) (.type "tuple") := by
  obtain ⟨a, o, its, n, rfl, e, hc, q⟩ := t
  rw [← hc]
  exact (Looks.ld e).andThen .now
/-- the first things, where there are any -/
theorem tp_firsts : ∀ (vs : List Value) {Q : List (Option Value) → Shared → Prop}, (∀ v ∈ vs, ∃ ns, IsTp s.heap v ns) → (∀ fs : List (Option Value), (∀ v ns r, vs = v :: r → IsTp s.heap v ns → ns = [] → ∃ gs, fs = none :: gs) → Q fs s) → wpAny M A (vs.mapM firstOfTuple') Q E s
  | [], Q, _, h => by
    rw [List.mapM_nil]
    exact wpAny_pure (h [] fun v ns r e => by cases e)
  | v :: vs, Q, t, h => by
    obtain ⟨ns, a, o, its, n, rfl, ho, hc, hd, hi⟩ := t v List.mem_cons_self
    rw [List.mapM_cons]
    refine wpAny_bind ?_
    rw [kas_first_eq]
    refine wpAny_bind (Looks.here (show Looks M s.heap (typeOf (.ref a)) o.cls from (Looks.ld ho).andThen .now) ?_)
    rw [hc, if_neg (by first | decide | simp)]
    refine wpAny_bind (listItems_at ho hd (wpAny_pure ?_))
    refine wpAny_bind (tp_firsts vs (Q := fun bs s' => wpAny M A (pure (its[0]? :: bs)) Q E s') (fun u hu => t u (List.mem_cons_of_mem _ hu)) fun fs _ => wpAny_pure (h _ fun v' ns' r e t' en => ?_))
    cases e
    obtain ⟨a2, o2, its2, n2, e2, ho2, hc2, hd2, hi2⟩ := t'
    cases e2
    rw [ho] at ho2
    cases ho2
    rw [hd] at hd2
    cases hd2
    rw [en] at hi2
    have : its[0]? = none := by
      rw [← Array.getElem?_toList]
      cases q : its.toList with
      | nil => rfl
      | cons x y => rw [q] at hi2; cases hi2
    exact ⟨fs, by rw [this]⟩
theorem tp_kind {v0 : Value} {vs : List Value} {Q : SortKind → Shared → Prop} (h0 : IsTp s.heap v0 []) (hv : ∀ v ∈ v0 :: vs, ∃ ns, IsTp s.heap v ns) (h : Q oneType' s) : wpAny M A (keyKind' (v0 :: vs).toArray) Q E s := by
  rw [keyKind'_eq, List.mapM_toArray, map_eq_pure_bind]
  refine wpAny_bind (wpAny_bind (tp_firsts (v0 :: vs) hv fun fs hf => wpAny_pure ?_))
  obtain ⟨gs, rfl⟩ := hf v0 [] vs rfl h0 rfl
  have g1 : ((none :: gs : List (Option Value)).toArray.all fun x => x.isSome) = false := by simp
  have g2 : (((none :: gs : List (Option Value)).toArray[0]?).bind id).isSome = false := by simp
  rw [if_neg (by rw [g1]; exact Bool.false_ne_true), if_neg (by rw [g2]; exact Bool.false_ne_true)]
  rw [oneTypeOnly'_eq, List.mapM_toArray, map_eq_pure_bind]
  refine wpAny_bind (wpAny_bind (wpAny_bind (kas_mapM (r := .type "tuple") _ (fun v hm Q' hq => by
    obtain ⟨ns, t⟩ := hv v hm
    exact t.type.here hq) (wpAny_pure ?_))))
  have hall : ((List.map (fun _ => Value.type "tuple") (v0 :: vs)).toArray.all fun x => x == Value.type "tuple") = true := by
    simp only [List.all_toArray, List.all_map, List.all_eq_true]
    intro _ _
    rfl
  have e0 : (List.map (fun _ => Value.type "tuple") (v0 :: vs)).toArray[0]? = some (Value.type "tuple") := by simp
  rw [e0]
  simp only [hall, if_true]
  exact wpAny_pure (wpAny_pure h)
theorem tp_lt {v u : Value} {ns ms : List Int} {Q : Bool → Shared → Prop} (hu : A.units < cLine) (hv : IsTp s.heap v ns) (hw : IsTp s.heap u ms) (h : Q (HT.lexLt ns ms) s) : wpAny (model prog w) A (keyLt' oneType' v u) Q E s := by
  have sp : Looks (model prog w) s.heap (specialOf v "__lt__") (some (.builtin "tuple.__lt__")) := hv.type.andThen (by
    have := PySem.F.slot_tuple_lt.lookup
    exact this ▸ .now)
  have hT : s.TypeIs v "tuple" := by
    obtain ⟨a, o, its, n, rfl, e, hc, q⟩ := hv
    exact ⟨o, e, hc⟩
  obtain ⟨a, ⟨c1, d1, dt1, s1⟩, its, n, rfl, ga, hc, hd, ia⟩ := hv
  obtain ⟨b, ⟨c2, d2, dt2, s2⟩, its2, n2, rfl, gb, hc2, hd2, ib⟩ := hw
  cases hc
  cases hd
  cases hc2
  cases hd2
  rw [keyLt'_oneType, oneLt'_eq]
  simp only [if_true]
  refine wpAny_bind (wpAny_cRoomFor hu ?_)
  refine wpAny_bind (NtL.csib (E := E) sp (PySem.F.slot_tuple_lt.bind _) (call_meets PySem.F.slot_tuple_lt hT PySem.F.entry_tuple_lt (PySem.F.args_tuple_lt_2 _ _) (HT.tuple_lt_ints a b its its2 n n2 d1 d2 s1 s2 ns ms ia ib) ⟨ga, gb, ?_⟩))
  exact wpAny_truthy_bool h
theorem tp_cmp {vs : List Value} {k : Value → List Int} (hu : A.units < cLine) (hv : ∀ v ∈ vs, IsTp s.heap v (k v)) : SrtO.Cmp prog w A s oneType' (fun p => p.1 ∈ vs) (SrtO.lt2 fun v u => HT.lexLt (k v) (k u)) := by
  intro p q hp hq
  exact tp_lt (Q := fun r s' => s' = s ∧ r = HT.lexLt (k p.1) (k q.1)) (E := fun _ _ => False) hu (hv p.1 hp) (hv q.1 hq) ⟨rfl, rfl⟩
theorem tp_sortable {a : Addr} {v0 : Value} {vs : List Value} {k : Value → List Int} (hu : A.units < cLine) (hv : ∀ v ∈ v0 :: vs, IsTp s.heap v (k v)) (h0 : k v0 = []) (ha : ∀ v ∈ v0 :: vs, v ≠ .ref a) :
    SrtO.SortableO prog w A s a (v0 :: vs) fun v u => HT.lexLt (k v) (k u) := by
  intro h' keep
  have hv' : ∀ v ∈ v0 :: vs, IsTp h' v (k v) := fun v hm => (hv v hm).keeps fun b o e g => keep b o (fun z => ha v hm (by rw [e, z])) g
  exact ⟨oneType', fun Q E hq => tp_kind (s := { s with heap := h' }) (by rw [← h0]; exact hv' v0 List.mem_cons_self) (fun v hm => ⟨_, hv' v hm⟩) hq, tp_cmp (s := { s with heap := h' }) hu hv'⟩
end
end TpS
set_option Elab.async false
set_option linter.all false
set_option maxRecDepth 100000
set_option maxHeartbeats 2000000
namespace L2
open PySem PySem.Spec PyProof.Rows PySem.Builtin
/-- sorted(xs), xs tuples of ints of any lengths, the first of them (): a new list of them, in order -/
def rSortedTL (K : PySem.W.Frag) : List V → Hp → VK → Prop := fun vs H Q => ∃ (a : Addr) (ts : List Addr) (k : Addr → List Int), vs = [V.ref a] ∧ SqL K H a (ts.map V.ref) ∧ (∀ t ∈ ts, H t = some (.tup ((k t).map V.int))) ∧ (∃ t0 r, ts = t0 :: r ∧ k t0 = []) ∧
  ∀ (ts' : List Addr) (p : Addr), ts'.Perm ts → ts'.Pairwise (fun p q => HT.lexLt (k q) (k p) = false) → H p = none → Q (.ref p) (upd H p (.lst (ts'.map V.ref)))
section
variable {X : Cx}
theorem cr_sortedTL (hu : X.A.units + 64 < cLine) : CallR X (.builtin "sorted") (rSortedTL X.K) := by
  intro pins s σ H vs us Q I r h
  obtain ⟨a, ts, k, rfl, hs, hx, ⟨t0, rr, rfl, hk0⟩, q⟩ := h
  obtain ⟨its, rv, hl, hz⟩ := I.list hs
  obtain ⟨u, rfl, ru⟩ := vals1 r
  obtain rfl : u = Value.ref a := ru
  have ei := nts_of rv
  have hzs : its.length ≤ sizeLine := by rw [← rv.length]; exact hz
  have hv : ∀ u ∈ its, TpS.IsTp s.heap u (k (adO u)) := fun u hm => by
    rw [ei] at hm
    obtain ⟨t, ht, rfl⟩ := List.mem_map.mp hm
    obtain ⟨_, its2, r2, o, ho, hc, n, hd⟩ := I.hok t _ (hx t ht)
    exact ⟨t, o, its2.toArray, n, rfl, ho, hc, hd, by rw [List.toList_toArray]; exact intsAre_of r2⟩
  subst ei
  refine SrtO.sorted_ord (NtL.swo_lexL fun u => k (adO u)) hl.isList hzs (fun h2 h₁ a' ha' kk => ?_) fun out h1 h2 => ?_
  · have hv1 : ∀ v ∈ (t0 :: rr).map Value.ref, TpS.IsTp h₁ v (k (adO v)) := fun v hm => (hv v hm).keeps fun b o e g => (kk b o g).2
    rw [List.map_cons] at hv1 ⊢
    refine TpS.tp_sortable (s := { s with heap := h₁ }) (k := fun u => k (adO u)) (by show X.A.units + 1 + 1 < cLine; omega) hv1 hk0 fun v hm z => ?_
    subst z
    obtain ⟨b, o, its2, n2, e, ho, _⟩ := hv (.ref a') (by rw [List.map_cons]; exact hm)
    cases e
    exact (kk _ _ ho).1 rfl
  · have eo : out = (out.map adO).map Value.ref := ref_map fun u hm => by
      have hm' := h2.perm.mem_iff.mp hm
      obtain ⟨t, _, e⟩ := List.mem_map.mp hm'
      exact ⟨t, e.symm⟩
    have hp : (out.map adO).Perm (t0 :: rr) := by
      have p1 := h2.perm.map adO
      rw [ad_map] at p1
      exact p1
    have hs2 : (out.map adO).Pairwise (fun p q => HT.lexLt (k q) (k p) = false) := List.pairwise_map.mpr (h1.imp fun {x y} z => z)
    have rvo : Vals ((out.map adO).map V.ref) out := by
      have z := of_nts (out.map adO)
      rw [← eo] at z
      exact z
    obtain ⟨n, hn⟩ := sortedAll_at s.heap ((t0 :: rr).map Value.ref) out.toArray
    refine ⟨.ref (s.heap.objs.size + 1), upd H (s.heap.objs.size + 1) (.lst ((out.map adO).map V.ref)), I.laid (t' := s.toks) (fun b o e => sortedAll_old e) (Nat.le_succ _) ⟨?_, out, n, rvo, hn⟩, rfl, q _ (s.heap.objs.size + 1) hp hs2 (I.hok.fresh (Nat.le_succ _))⟩
    rw [List.length_map, hp.length_eq, ← List.length_map (f := V.ref)]
    exact hz
end
end L2
set_option Elab.async false
set_option linter.all false
set_option maxRecDepth 100000
set_option maxHeartbeats 4000000
namespace Gd
open PySem PySem.Spec PyProof.Rows L2

/-! ### the law's call from its promise, where nothing is shown around -/
section
variable {pr : Program} {w : World} {K : PySem.W.Frag} {mg mb : Str → Option Value} {k : Nat} {fa a : Addr} {fd : FuncData} {x : Str} {sp : Sp}
  {s1 : Shared} {vs : List Value} {ns : List Int}

/-- from one abstract heap that tracks nothing but the script -/
theorem top_core (KX : K.In s1.heap) (hns : s1.heap.Ns mainGlobals mg) (hbn : s1.heap.Ns builtinsNs mb)
    (hbb : ∀ x : Str, x ≠ "__name__" → mb x = bootBuiltins x) (hlim : s1.heap.NoLimit) (hgen : s1.gens = #[]) (hsm : ∃ mm, s1.heap.Ns sysModules mm)
    (ha : s1.heap.get? a = some { cls := .type "list", data := .seq vs.toArray }) (hr : Room k callerA)
    (F : ∀ base : Heap, K.In base → base.Ns mainGlobals mg → (∃ o, base.get? sysModules = some o) → FnG pr w K mg base CX0 k fa fd [x] sp)
    (hbind : ∀ (s : Shared) (u : Value), BindsTo s fd ⟨[u], []⟩ [(x, u)])
    (H : Hp) (hO : Only H) (hsp : sp [.ref a] H (fun v _ => v = .bl true) fun _ _ _ => False)
    (hok : HOk pr w H s1.heap) (hA : ∀ b, H b ≠ none → b = a) (hK : H a ≠ none → K.lookup a = none) :
    codeAny (model pr w) callerA (.call (.ref fa) ⟨[.ref a], []⟩)
      (fun r s' => r = .ok (.ret (.bool true)) ∧ OldK s1.heap s'.heap ∧ s'.os = s1.os ∧ AllBare s'.gens) s1 := by
  have keepB : ∀ {b : Addr} {o : Obj}, s1.heap.get? b = some o → H b = none → (hidT s1.heap H).get? b = some o := fun e n => hidT_get e n
  have isA : ∀ {b : Addr} {u : HO}, H b = some u → b = a := fun {b u} q => hA b (by rw [q]; exact Option.some_ne_none _)
  have nsB : ∀ {b : Addr} {m : Str → Option Value}, s1.heap.Ns b m → (hidT s1.heap H).Ns b m := by
    rintro b m ⟨o, es, ep, e, d, r⟩
    refine ⟨o, es, ep, keepB e ?_, d, r⟩
    cases q : H b with
    | none => rfl
    | some u =>
      have z := isA q
      subst z
      rw [ha] at e
      cases e
      cases d
  have inB : K.In (hidT s1.heap H) := by
    intro b o e
    refine keepB (KX b o e) ?_
    cases q : H b with
    | none => rfl
    | some u =>
      have z := isA q
      subst z
      rw [hK (by rw [q]; exact Option.some_ne_none _)] at e
      cases e
  have smB : ∃ o, (hidT s1.heap H).get? sysModules = some o := by
    obtain ⟨mm, hm⟩ := hsm
    obtain ⟨o, _, _, e, _⟩ := nsB hm
    exact ⟨o, e⟩
  obtain ⟨mc, l1, l2⟩ := hlim
  have modB : L2.Mod K mg (hidT s1.heap H) := ⟨inB, nsB hns, ⟨mb, nsB hbn, hbb⟩, ⟨mc, nsB l1, l2⟩⟩
  have e0 : Env0 pr w K mg (hidT s1.heap H) callerA [] s1 H :=
    { frames := rfl, mod := modB, bs := fun b o e => of_hidT e, bsz := Nat.le_of_eq (hidT_size _ _), funs := trivial,
      frf := fun b hb => absurd (show b ∈ ([] : List Addr) from hb) (by simp), hok := hok, bare := .of_eq hgen }
  refine codeAny_mono ((F _ inB (nsB hns) smB).run callerA [] s1 H ⟨[.ref a], []⟩ [.ref a] [.ref a] _ _ rfl hr e0 (hbind s1 (.ref a)) (.cons rfl .nil) hsp) ?_
  intro r s' h
  cases r with
  | error e => exact False.elim h
  | ok fl =>
    cases fl with
    | next => exact False.elim h
    | brk => exact False.elim h
    | cont => exact False.elim h
    | ret u =>
      obtain ⟨v, H', os, bare, un, hok', r', q⟩ := h
      have q' : v = .bl true := q
      subst q'
      obtain rfl : u = Value.bool true := r'
      refine ⟨rfl, OldK.of_keep ?_, os, bare⟩
      intro b o e
      cases q : H b with
      | none => exact un.keep b o e q (fun z => absurd (show b ∈ ([] : List Addr) from z) (by simp)) (by simp)
      | some u =>
        rcases hO b with z | ⟨ob, xs, z⟩
        · rw [q] at z
          cases z
        · obtain ⟨e1, _⟩ := hok b _ z
          obtain ⟨e2, _⟩ := hok' b _ (un.frzs b ob _ z)
          rw [e] at e1
          cases e1
          exact e2

theorem top_call (KX : K.In s1.heap) (hns : s1.heap.Ns mainGlobals mg) (hbn : s1.heap.Ns builtinsNs mb)
    (hbb : ∀ x : Str, x ≠ "__name__" → mb x = bootBuiltins x) (hlim : s1.heap.NoLimit) (hgen : s1.gens = #[]) (hsm : ∃ mm, s1.heap.Ns sysModules mm)
    (ha : s1.heap.get? a = some { cls := .type "list", data := .seq vs.toArray }) (hi : IntsAre vs ns) (hl : ns.length ≤ sizeLine) (hr : Room k callerA)
    (F : ∀ base : Heap, K.In base → base.Ns mainGlobals mg → (∃ o, base.get? sysModules = some o) → FnG pr w K mg base CX0 k fa fd [x] sp)
    (hbind : ∀ (s : Shared) (u : Value), BindsTo s fd ⟨[u], []⟩ [(x, u)])
    (hsp : ∀ H : Hp, Only H → SqL K H a (ns.map V.int) → sp [.ref a] H (fun v _ => v = .bl true) fun _ _ _ => False) :
    codeAny (model pr w) callerA (.call (.ref fa) ⟨[.ref a], []⟩)
      (fun r s' => r = .ok (.ret (.bool true)) ∧ OldK s1.heap s'.heap ∧ s'.os = s1.os ∧ AllBare s'.gens) s1 := by
  have rv := vals_ints hi
  have ln := hi.length
  cases hk : K.lookup a with
  | some o =>
    have e := KX a o hk
    rw [ha] at e
    cases e
    have O : Only (fun _ => none) := fun _ => .inl rfl
    refine top_core KX hns hbn hbb hlim hgen hsm ha hr F hbind _ O (hsp _ O ?_) ?_ ?_ ?_
    · exact .inr ⟨_, vs.toArray, _, hk, rfl, rfl, rfl, by rw [List.size_toArray, ln]; exact hl, by simpa using rv⟩
    · intro b u z
      have z' : (none : Option HO) = some u := z
      cases z'
    · exact fun b z => absurd rfl z
    · exact fun z => absurd rfl z
  | none =>
    let H : Hp := fun b => if b = a then some (.frz { cls := .type "list", data := .seq vs.toArray } (.lst (ns.map V.int))) else none
    have Ha : H a = some (.frz { cls := .type "list", data := .seq vs.toArray } (.lst (ns.map V.int))) := if_pos rfl
    have Hn : ∀ b, b ≠ a → H b = none := fun b h => if_neg h
    have O : Only H := fun b => by
      by_cases hb : b = a
      · subst hb
        exact .inr ⟨_, _, Ha⟩
      · exact .inl (Hn b hb)
    refine top_core KX hns hbn hbb hlim hgen hsm ha hr F hbind H O (hsp H O (.inl (.inr ⟨_, Ha⟩))) ?_ ?_ (fun _ => hk)
    · intro b u z
      by_cases hb : b = a
      · subst hb
        rw [Ha] at z
        cases z
        exact ⟨ha, by rw [List.length_map]; exact hl, vs, _, rv, ha⟩
      · rw [Hn b hb] at z
        cases z
    · intro b z
      by_cases hb : b = a
      · exact hb
      · exact absurd (Hn b hb) z
end

theorem walkG {l : PySem.W.OpenLaw} {n k : Nat} {q : Program} {loose : List Str} {XP : (Str → Option Value) → Heap → Prop}
    {YP : World → Heap → Prop} {d : DefRec} {K : Params → PySem.W.Frag} {sp : World → Sp} {x : Str}
    (him : importsNone q = true) (hn : l.most = some n) (hn2 : n ≤ sizeLine) (hdf : d.params.defaults = []) (hr : Room k callerA)
    (hY : ∀ (w : World) (h : Heap), YP w h → (K w.params).In h)
    (F : ∀ (w : World) (mg : Str → Option Value) (fa : Addr) (h : Heap), (K w.params).In h → h.Ns mainGlobals mg → mg d.name = some (.ref fa) →
      ∃ fd : FuncData, (∀ (s : Shared) (u : Value), BindsTo s fd ⟨[u], []⟩ [(x, u)]) ∧
        ∀ base : Heap, (K w.params).In base → base.Ns mainGlobals mg → (∃ o, base.get? sysModules = some o) → FnG l.prog w (K w.params) mg base CX0 k fa fd [x] (sp w))
    (hsp : ∀ (w : World) (H : Hp) (a : Addr) (ns : List Int), ns.length ≤ n → Only H → SqL (K w.params) H a (ns.map V.int) →
      sp w [.ref a] H (fun v _ => v = .bl true) fun _ _ _ => False) :
    PySem.W.WalkO q loose XP YP l.row.toRowW d [] (fun f vs => PySem.call f vs) := by
  refine Att.attach_call hn hdf ?_
  intro w s0 s1 mg mb fa o pm cd doc a vs ns G Y ho hd hcd hmg hobj hints hlen hg
  obtain ⟨fd, hb, hF⟩ := F w mg fa _ (hY w _ Y) G.T.g hmg
  exact top_call (hY w _ Y) G.T.g G.T.b G.T.builtins G.T.nolimit hg (by obtain ⟨mm, hm, _⟩ := (G.T.seer him).mods; exact ⟨mm, hm⟩) hobj hints (Nat.le_trans hlen hn2) hr hF hb
    fun H hO hS => hsp w H a ns hlen hO hS
end Gd
set_option Elab.async false
set_option linter.all false
set_option maxRecDepth 100000
set_option maxHeartbeats 4000000
namespace Gd
open PySem PySem.Spec PyProof.Rows L2 LamX

/-! ### the law's call from its promise; some code objects have tables, and things are shown -/
/-- an empty table of code objects -/
abbrev tblO : Obj := { cls := .none, data := .fields #[] }
/-- the tables at ts, the script at a if it is tracked: nothing else -/
structure OnlyT (ts : List Addr) (a : Addr) (H : Hp) : Prop where
  tb : ∀ p ∈ ts, H p = some (.tbl #[])
  el : ∀ b u, H b = some u → b ∈ ts ∨ (b = a ∧ ∃ o xs, u = .frz o (.lst xs))
section
variable {pr : Program} {w : World} {K : PySem.W.Frag} {mg mb : Str → Option Value} {k : Nat} {fa a : Addr} {cs : List (Addr × Addr)} {fd : FuncData} {x : Str} {sp : Sp}
  {s1 : Shared} {vs : List Value} {ns : List Int}
theorem core_tab (KX : K.In s1.heap) (hns : s1.heap.Ns mainGlobals mg) (hbn : s1.heap.Ns builtinsNs mb)
    (hbb : ∀ x : Str, x ≠ "__name__" → mb x = bootBuiltins x) (hlim : s1.heap.NoLimit) (hgen : s1.gens = #[]) (hsm : ∃ mm, s1.heap.Ns sysModules mm)
    (tO : ∀ p ∈ cs, s1.heap.get? p.2 = some tblO) (tK : ∀ p ∈ cs, K.lookup p.2 = none) (tC : ∀ p ∈ cs, PySem.W.CodeHd s1.heap p.1 p.2)
    (bmn : ∃ (bm : Addr) (ob : Obj), mg "__builtins__" = some (.ref bm) ∧ bm ≠ builtinsNs ∧ s1.heap.get? bm = some ob ∧ ob.cls = .type "module" ∧ ob.dict = some builtinsNs ∧ ob.data = .plain)
    (ha : s1.heap.get? a = some { cls := .type "list", data := .seq vs.toArray }) (hr : Room k callerA)
    (F : ∀ base : Heap, K.In base → base.Ns mainGlobals mg → (∃ o, base.get? sysModules = some o) → (∀ p ∈ cs, TabB base mg p.1 p.2) → FnG pr w K mg base CX0 k fa fd [x] sp)
    (hbind : ∀ (s : Shared) (u : Value), BindsTo s fd ⟨[u], []⟩ [(x, u)])
    (H : Hp) (hO : OnlyT (cs.map Prod.snd) a H) (hsp : sp [.ref a] H (fun v _ => v = .bl true) fun _ _ _ => False)
    (hok : HOk pr w H s1.heap) (hK : H a ≠ none → K.lookup a = none) :
    codeAny (model pr w) callerA (.call (.ref fa) ⟨[.ref a], []⟩)
      (fun r s' => r = .ok (.ret (.bool true)) ∧ OldK s1.heap s'.heap ∧ s'.os = s1.os ∧ AllBare s'.gens) s1 := by
  have tO' : ∀ b ∈ cs.map Prod.snd, s1.heap.get? b = some tblO := by
    intro b hb
    obtain ⟨p, hp, rfl⟩ := List.mem_map.mp hb
    exact tO p hp
  -- what is neither the script nor a table is not tracked
  have clear : ∀ {b : Addr} {o : Obj}, s1.heap.get? b = some o → o ≠ { cls := .type "list", data := .seq vs.toArray } → o ≠ tblO → H b = none := by
    intro b o e n1 n2
    rcases q : H b with _ | u
    · rfl
    · rcases hO.el b u q with z | ⟨z, _⟩
      · exact absurd (Option.some.inj (e.symm.trans (tO' b z))) n2
      · subst z
        exact absurd (Option.some.inj (e.symm.trans ha)) n1
  have up : ∀ {b : Addr} {o : Obj}, s1.heap.get? b = some o → H b = none → (hidT s1.heap H).get? b = some o := fun e n => hidT_get e n
  have nsB : ∀ {b : Addr} {m : Str → Option Value}, s1.heap.Ns b m → (hidT s1.heap H).Ns b m := by
    rintro b m ⟨o, es, ep, e, d, r⟩
    refine ⟨o, es, ep, up e (clear e ?_ ?_), d, r⟩
    · rintro rfl
      cases d
    · rintro rfl
      cases d
  have inB : K.In (hidT s1.heap H) := by
    intro b o e
    refine up (KX b o e) ?_
    rcases q : H b with _ | u
    · rfl
    · exfalso
      rcases hO.el b u q with z | ⟨z, _⟩
      · obtain ⟨p, hp, rfl⟩ := List.mem_map.mp z
        rw [tK p hp] at e
        cases e
      · subst z
        rw [hK (by rw [q]; exact Option.some_ne_none _)] at e
        cases e
  have smB : ∃ o, (hidT s1.heap H).get? sysModules = some o := by
    obtain ⟨mm, hm⟩ := hsm
    obtain ⟨o, _, _, e, _⟩ := nsB hm
    exact ⟨o, e⟩
  have neT : ∀ {b : Addr} {m : Str → Option Value}, s1.heap.Ns b m → ∀ p ∈ cs, b ≠ p.2 := by
    rintro b m ⟨o, es, ep, e, d, _⟩ p hp rfl
    rw [tO p hp] at e
    cases e
    cases d
  have tbs : ∀ p ∈ cs, TabB (hidT s1.heap H) mg p.1 p.2 := by
    intro p hp
    refine ⟨?_, ?_, neT hns p hp⟩
    · obtain ⟨o, us, file, tf, fl, tg, inF, tx, tt, e1, r1, r2, r3, rest⟩ := tC p hp
      refine ⟨o, us, file, tf, fl, tg, inF, tx, tt, up e1 (clear e1 ?_ ?_), r1, r2, r3, rest⟩
      · rintro rfl
        cases r2
      · rintro rfl
        cases r2
        simp at r3
    · obtain ⟨bm, ob, b1, b2, b3, b4, b5, b6⟩ := bmn
      refine ⟨bm, ob, b1, b2, ?_, ?_, up b3 (clear b3 ?_ ?_), b4, b5, b6⟩
      · rintro rfl
        obtain ⟨o, es, ep, e, d, _⟩ := hns
        rw [b3] at e
        cases e
        rw [b6] at d
        cases d
      · rintro rfl
        rw [tO p hp] at b3
        cases b3
        cases b6
      · rintro rfl
        cases b6
      · rintro rfl
        cases b6
  obtain ⟨mc, l1, l2⟩ := hlim
  have modB : L2.Mod K mg (hidT s1.heap H) := ⟨inB, nsB hns, ⟨mb, nsB hbn, hbb⟩, ⟨mc, nsB l1, l2⟩⟩
  have e0 : Env0 pr w K mg (hidT s1.heap H) callerA [] s1 H :=
    { frames := rfl, mod := modB, bs := fun b o e => of_hidT e, bsz := Nat.le_of_eq (hidT_size _ _), funs := trivial,
      frf := fun b hb => absurd (show b ∈ ([] : List Addr) from hb) (by simp), hok := hok, bare := .of_eq hgen }
  refine codeAny_mono ((F _ inB (nsB hns) smB tbs).run callerA [] s1 H ⟨[.ref a], []⟩ [.ref a] [.ref a] _ _ rfl hr e0 (hbind s1 (.ref a)) (.cons rfl .nil) hsp) ?_
  intro r s' h
  cases r with
  | error e => exact False.elim h
  | ok fl =>
    cases fl with
    | next => exact False.elim h
    | brk => exact False.elim h
    | cont => exact False.elim h
    | ret u =>
      obtain ⟨v, H', os, bare, un, hok', rv, q⟩ := h
      have q' : v = .bl true := q
      subst q'
      obtain rfl : u = Value.bool true := rv
      have kp : ∀ b o, b ∉ cs.map Prod.snd → s1.heap.get? b = some o → s'.heap.get? b = some o := by
        intro b o nb e
        rcases q : H b with _ | u
        · exact un.keep b o e q (fun z => absurd (show b ∈ ([] : List Addr) from z) (by simp)) (by simp)
        · rcases hO.el b u q with z | ⟨_, ob, xs, z⟩
          · exact absurd z nb
          · rw [z] at q
            obtain ⟨e1, _⟩ := hok b _ q
            obtain ⟨e2, _⟩ := hok' b _ (un.frzs b ob _ q)
            rw [e] at e1
            cases e1
            exact e2
      have gr : ∀ p ∈ cs, ∃ more : Array Value, s'.heap.get? p.2 = some { cls := .none, data := .fields more } := by
        intro p hp
        obtain ⟨more, z⟩ := un.tbls p.2 #[] (hO.tb p.2 (List.mem_map_of_mem hp))
        exact ⟨_, hok' p.2 _ z⟩
      refine ⟨rfl, ⟨fun b o e => ?_, fun b o e => ?_⟩, os, bare⟩
      · by_cases hb : b ∈ cs.map Prod.snd
        · obtain ⟨p, hp, rfl⟩ := List.mem_map.mp hb
          obtain ⟨more, hm⟩ := gr p hp
          rw [tO p hp] at e
          cases e
          exact .inr (.inl ⟨((tC p hp).tab (tO p hp)).isCodeTable, rfl, #[], more, rfl, by rw [Array.empty_append]; exact hm⟩)
        · exact .inl (kp b o hb e)
      · by_cases hb : b ∈ cs.map Prod.snd
        · obtain ⟨p, hp, rfl⟩ := List.mem_map.mp hb
          obtain ⟨more, hm⟩ := gr p hp
          exact ⟨_, hm⟩
        · exact ⟨o, kp b o hb e⟩
theorem top_tab (KX : K.In s1.heap) (hns : s1.heap.Ns mainGlobals mg) (hbn : s1.heap.Ns builtinsNs mb)
    (hbb : ∀ x : Str, x ≠ "__name__" → mb x = bootBuiltins x) (hlim : s1.heap.NoLimit) (hgen : s1.gens = #[]) (hsm : ∃ mm, s1.heap.Ns sysModules mm)
    (tO : ∀ p ∈ cs, s1.heap.get? p.2 = some tblO) (tK : ∀ p ∈ cs, K.lookup p.2 = none) (tC : ∀ p ∈ cs, PySem.W.CodeHd s1.heap p.1 p.2)
    (bmn : ∃ (bm : Addr) (ob : Obj), mg "__builtins__" = some (.ref bm) ∧ bm ≠ builtinsNs ∧ s1.heap.get? bm = some ob ∧ ob.cls = .type "module" ∧ ob.dict = some builtinsNs ∧ ob.data = .plain)
    (ha : s1.heap.get? a = some { cls := .type "list", data := .seq vs.toArray }) (hi : IntsAre vs ns) (hl : ns.length ≤ sizeLine) (hr : Room k callerA)
    (F : ∀ base : Heap, K.In base → base.Ns mainGlobals mg → (∃ o, base.get? sysModules = some o) → (∀ p ∈ cs, TabB base mg p.1 p.2) → FnG pr w K mg base CX0 k fa fd [x] sp)
    (hbind : ∀ (s : Shared) (u : Value), BindsTo s fd ⟨[u], []⟩ [(x, u)])
    (hsp : ∀ H : Hp, OnlyT (cs.map Prod.snd) a H → SqL K H a (ns.map V.int) → sp [.ref a] H (fun v _ => v = .bl true) fun _ _ _ => False) :
    codeAny (model pr w) callerA (.call (.ref fa) ⟨[.ref a], []⟩)
      (fun r s' => r = .ok (.ret (.bool true)) ∧ OldK s1.heap s'.heap ∧ s'.os = s1.os ∧ AllBare s'.gens) s1 := by
  have rv := vals_ints hi
  have ln := hi.length
  have tO' : ∀ b ∈ cs.map Prod.snd, s1.heap.get? b = some tblO := by
    intro b hb
    obtain ⟨p, hp, rfl⟩ := List.mem_map.mp hb
    exact tO p hp
  have aN : a ∉ cs.map Prod.snd := fun z => by
    have e := tO' a z
    rw [ha] at e
    cases e
  have okT : ∀ {H : Hp} {b : Addr} {u : HO}, b ∈ cs.map Prod.snd → some (HO.tbl #[]) = some u → ObjOk pr w H s1.heap b u := by
    intro H b u hb e
    cases e
    exact tO' b hb
  rcases hk : K.lookup a with _ | o
  · let H : Hp := fun b => if b = a then some (.frz { cls := .type "list", data := .seq vs.toArray } (.lst (ns.map V.int))) else if b ∈ cs.map Prod.snd then some (.tbl #[]) else none
    have Ha : H a = some (.frz { cls := .type "list", data := .seq vs.toArray } (.lst (ns.map V.int))) := if_pos rfl
    have Ht : ∀ b, b ∈ cs.map Prod.snd → H b = some (.tbl #[]) := fun b hb => (if_neg (fun z => aN (by rw [← z]; exact hb))).trans (if_pos hb)
    have Hn : ∀ b, b ≠ a → b ∉ cs.map Prod.snd → H b = none := fun b h1 h2 => (if_neg h1).trans (if_neg h2)
    have O : OnlyT (cs.map Prod.snd) a H := by
      refine ⟨Ht, fun b u e => ?_⟩
      by_cases h1 : b ∈ cs.map Prod.snd
      · exact .inl h1
      · by_cases h2 : b = a
        · subst h2
          rw [Ha] at e
          cases e
          exact .inr ⟨rfl, _, _, rfl⟩
        · rw [Hn b h2 h1] at e
          cases e
    refine core_tab KX hns hbn hbb hlim hgen hsm tO tK tC bmn ha hr F hbind H O (hsp H O (.inl (.inr ⟨_, Ha⟩))) ?_ (fun _ => hk)
    intro b u z
    by_cases hb : b = a
    · subst hb
      rw [Ha] at z
      cases z
      exact ⟨ha, by rw [List.length_map]; exact hl, vs, _, rv, ha⟩
    · by_cases h1 : b ∈ cs.map Prod.snd
      · rw [Ht b h1] at z
        exact okT h1 z
      · rw [Hn b hb h1] at z
        cases z
  · have e := KX a o hk
    rw [ha] at e
    cases e
    let H : Hp := fun b => if b ∈ cs.map Prod.snd then some (.tbl #[]) else none
    have Ht : ∀ b, b ∈ cs.map Prod.snd → H b = some (.tbl #[]) := fun b hb => if_pos hb
    have Hn : ∀ b, b ∉ cs.map Prod.snd → H b = none := fun b h2 => if_neg h2
    have O : OnlyT (cs.map Prod.snd) a H := by
      refine ⟨Ht, fun b u e => ?_⟩
      by_cases h1 : b ∈ cs.map Prod.snd
      · exact .inl h1
      · rw [Hn b h1] at e
        cases e
    refine core_tab KX hns hbn hbb hlim hgen hsm tO tK tC bmn ha hr F hbind H O (hsp H O ?_) ?_ (fun z => absurd (Hn a aN) z)
    · exact .inr ⟨_, vs.toArray, _, hk, rfl, rfl, rfl, by rw [List.size_toArray, ln]; exact hl, by simpa using rv⟩
    · intro b u z
      by_cases h1 : b ∈ cs.map Prod.snd
      · rw [Ht b h1] at z
        exact okT h1 z
      · rw [Hn b h1] at z
        cases z
end
/-- the end of a law's proof where code objects have tables -/
theorem walkT {l : PySem.W.OpenLaw} {n k : Nat} {q : Program} {loose : List Str} {XP : (Str → Option Value) → Heap → Prop}
    {YP : World → Heap → Prop} {d : DefRec} {K : Params → PySem.W.Frag} {cs : List (Addr × Addr)} {sp : World → Sp} {x : Str}
    (him : importsNone q = true) (hn : l.most = some n) (hn2 : n ≤ sizeLine) (hdf : d.params.defaults = []) (hr : Room k callerA)
    (hY : ∀ (w : World) (h : Heap), YP w h → (K w.params).In h ∧ ∀ p ∈ cs, h.get? p.2 = some tblO)
    (hL : ∀ (w : World), ∀ p ∈ cs, (K w.params).lookup p.2 = none)
    (hC : ∀ (w : World) (h : Heap), YP w h → (K w.params).In h → ∀ p ∈ cs, PySem.W.CodeHd h p.1 p.2)
    (F : ∀ (w : World) (mg : Str → Option Value) (fa : Addr) (h : Heap), (K w.params).In h → h.Ns mainGlobals mg → mg d.name = some (.ref fa) →
      ∃ fd : FuncData, (∀ (s : Shared) (u : Value), BindsTo s fd ⟨[u], []⟩ [(x, u)]) ∧
        ∀ base : Heap, (K w.params).In base → base.Ns mainGlobals mg → (∃ o, base.get? sysModules = some o) → (∀ p ∈ cs, TabB base mg p.1 p.2) → FnG l.prog w (K w.params) mg base CX0 k fa fd [x] (sp w))
    (hsp : ∀ (w : World) (H : Hp) (a : Addr) (ns : List Int), ns.length ≤ n → OnlyT (cs.map Prod.snd) a H → SqL (K w.params) H a (ns.map V.int) →
      sp w [.ref a] H (fun v _ => v = .bl true) fun _ _ _ => False) :
    PySem.W.WalkO q loose XP YP l.row.toRowW d [] (fun f vs => PySem.call f vs) := by
  refine Att.attach_call hn hdf ?_
  intro w s0 s1 mg mb fa o pm cd doc a vs ns G Y ho hd hcd hmg hobj hints hlen hg
  obtain ⟨KX, tO⟩ := hY w _ Y
  obtain ⟨fd, hb, hF⟩ := F w mg fa _ KX G.T.g hmg
  exact top_tab KX G.T.g G.T.b G.T.builtins G.T.nolimit hg (by obtain ⟨mm, hm, _⟩ := (G.T.seer him).mods; exact ⟨mm, hm⟩) tO (hL w) (hC w _ Y KX) G.T.bmain hobj hints (Nat.le_trans hlen hn2) hr hF hb
    fun H hO hS => hsp w H a ns hlen hO hS
end Gd
set_option Elab.async false
set_option linter.all false
set_option maxRecDepth 100000
set_option maxHeartbeats 4000000
/-! a lambda with one default, a whole number, handed to a def: f(lambda x=0: body) -/
namespace Gd
open PySem PySem.Spec PySem.W PyProof.Rows L2 LamX
/-- the lambda's names: own ones that the maker's slots do not bear, captured ones, globals -/
structure LamD (N : List Str) (sc scope : Scope) : Prop where
  kind : scope.kind = .function
  co : scope.isCoroutine = false
  gen : scope.isGenerator = false
  noc : ∀ y ∈ scope.names, y.2 ≠ .cell
  own : ∀ y ∈ scope.names, y.2 = .local → y.1 ∉ N
  fre : ∀ y ∈ scope.names, y.2 = .free → sc.names.lookup y.1 = some .cell ∨ sc.names.lookup y.1 = some .free
def lamDB (N : List Str) (sc scope : Scope) : Bool :=
  decide (scope.kind = .function) && (!scope.isCoroutine && (!scope.isGenerator && scope.names.all fun y =>
    !decide (y.2 = .cell) && ((!decide (y.2 = .local) || !decide (y.1 ∈ N)) &&
      (!decide (y.2 = .free) || (decide (sc.names.lookup y.1 = some .cell) || decide (sc.names.lookup y.1 = some .free))))))
theorem lamD_by {N : List Str} {sc scope : Scope} (h : lamDB N sc scope = true) : LamD N sc scope := by
  unfold lamDB at h
  simp only [Bool.and_eq_true, Bool.or_eq_true, Bool.not_eq_true', decide_eq_true_eq, decide_eq_false_iff_not, List.all_eq_true] at h
  obtain ⟨h1, h2, h3, h4⟩ := h
  exact ⟨h1, h2, h3, fun y hy => (h4 y hy).1, fun y hy e => (h4 y hy).2.1.resolve_left (fun z => z e), fun y hy e => (h4 y hy).2.2.resolve_left (fun z => z e)⟩
/-- the object that the making leaves -/
abbrev lobj (X : Cx) (params : Arguments) (body : Expr) (scope : Scope) (T0 : Addr) (doc pm : Value) (c' : Addr) (ctv : Value) : Obj :=
  kdv_obj "<lambda>" (X.env.qual ++ "<lambda>") params (.expr body) scope (cloFrom X.env.cells scope.names []) (.ref T0) doc pm c' ctv
section
variable {X : Cx} {pins : List (Addr × Obj)} {σ : L2.St} {H HZ : Hp} {s s1 : Shared}
theorem LamD.has {scope : Scope} (L : LamD X.N X.env.scope scope) (ok : X.Ok) {y : Str × NameKind} (hy : y ∈ scope.names) (e : y.2 = .free) : ∃ c, X.env.cells.lookup y.1 = some c := by
  rcases L.fre y hy e with k | k
  · exact ok.has _ (.inl k)
  · exact ok.has _ (.inr k)
/-- the making -/
theorem lamD_make {T : List (Addr × Str)} {c P : Addr} {params : Arguments} {body : Expr} {scope : Scope} {pos p0 : Pos} {i0 : Int} {Q : Value → Shared → Prop} (I : Inv X pins σ H s)
    (TB : TabB X.base X.mg c P) (hcode : X.env.code = .ref c) (hm : (P, X.env.qual ++ "<lambda>") ∈ T) (hu : ∀ p ∈ T, p.1 = P → p.2 = X.env.qual ++ "<lambda>") (hT : Tabs T H)
    (hd : params.defaults = [.Constant (.int i0) 0 p0]) (hk : params.kw_defaults = []) (L : LamD X.N X.env.scope scope)
    (h : ∀ (f c' T0 : Addr) (t : Tok) (doc pm ctv : Value) (H1 : Hp) (s' : Shared), Inv X pins σ H1 s' → ExtN H H1 → Tabs T H1 →
      s'.heap.get? f = some (lobj X params body scope T0 doc pm c' ctv) → H1 f = none → f ∉ frs X.stack →
      s'.heap.get? T0 = some (kdv_tup [.int i0 t]) → H1 T0 = none → T0 ∉ frs X.stack → H1 c' = some (CodeO c' (X.env.qual ++ "<lambda>")) → Q (.ref f) s') :
    wpAny (model X.prog X.w) X.A (eval (.Lambda params body scope pos) X.env) Q X.xe s := by
  refine kdv_lam (by rw [hd]; rfl) hk ?_
  rw [hd]
  refine kdv_all1 (wpAny_mono ((pe_int (X := X)).run pins s σ H (fun v H1 => v = .int i0 ∧ H1 = H) I ⟨rfl, rfl⟩) (fun u s2 hq => ?_) (fun e s' q => q))
  obtain ⟨v, H2, I2, rv, ev, eH⟩ := hq
  subst ev
  subst eH
  obtain ⟨t, rfl⟩ : ∃ t, u = Value.int i0 t := rv
  refine kdv_all0 ?_
  rw [makeFunction_eq]
  simp only [List.zip_nil_right, List.filterMap_nil, List.isEmpty_nil, List.isEmpty_cons, if_true, pure_bind, Bool.false_eq_true, if_false]
  refine wpAny_bind (wpAny_newTextTuple ?_)
  -- the tuple of what the lambda has by itself
  have I3 : Inv X pins σ H2 { s2 with heap := s2.heap.push (kdv_tup [.int i0 t]) } := I2.kept (t' := s2.toks) fun b o e => Heap.get?_push_of_some _ e
  have nT0 : H2 s2.heap.objs.size = none := I2.hok.fresh (Nat.le_refl _)
  have fr : ∀ {b : Addr}, s2.heap.objs.size ≤ b → b ∉ frs X.stack := fun {b} hb z => by
    rcases List.mem_cons.mp (I2.stkSub _ z) with e | e
    · have l1 := I2.lt
      rw [← e] at l1
      exact Nat.lt_irrefl _ (Nat.lt_of_lt_of_le l1 hb)
    · exact I2.nofs hb e
  have gT0 : (s2.heap.push (kdv_tup [.int i0 t])).get? s2.heap.objs.size = some (kdv_tup [.int i0 t]) := Heap.get?_push_size _ rfl
  obtain ⟨ps, hP, ht, ha⟩ := hT _ hm
  have bP := TB.bm.keeps I3.bk
  have oP : (s2.heap.push (kdv_tup [.int i0 t])).get? P = some (tabObj ps) := I3.hok P _ hP
  have oP2 : s2.heap.get? P = some (tabObj ps) := I2.hok P _ hP
  have clo := closure_ok (scope := scope) (env := X.env) (fun y hy e => L.has I.ok hy e)
  have sz : (s2.heap.push (kdv_tup [.int i0 t])).objs.size = s2.heap.objs.size + 1 := Heap.size_push _ _
  rcases hc : codeAmong pos ps.toList with _ | cv
  · refine kdv_makeTail (c := c) (mg := X.mg) clo I.ok.glob (I.mod.glob.keeps I3.bk) hcode (TB.code.keeps I3.bk) oP ht hc TB.gP bP (fun c' ctv doc h' tk hx hge hlt hrec htb => ?_)
    obtain ⟨c2, oc, vs, tq, e2, hoc, hdt, hv⟩ := hrec
    cases e2
    have nC : H2 c' = none := I3.hok.fresh hge
    have keep : ∀ b o, b ≠ P → (s2.heap.push (kdv_tup [.int i0 t])).get? b = some o → (h'.push (lobj X params body scope s2.heap.objs.size doc ((X.mg "__name__").getD .none) c' ctv)).get? b = some o :=
      fun b o n e => Heap.get?_push_of_some _ (hx b o n e)
    have I4 := inv_table (t' := tk) (more := #[rawInt pos.line, rawInt pos.col, .ref c']) I3 hP keep (Heap.get?_push_of_some _ htb) hge ⟨oc, vs, tq, Heap.get?_push_of_some _ hoc, hdt, hv⟩
    have nPc : P ≠ c' := ne_of_none hP nC
    have grow : ExtN H2 (upd (upd H2 P (.tbl (ps ++ #[rawInt pos.line, rawInt pos.col, .ref c']))) c' (CodeO c' (X.env.qual ++ "<lambda>"))) := by
      intro b o e n
      have n1 : b ≠ P := by
        rintro rfl
        rw [hP] at e
        exact n ps (Option.some.inj e).symm
      rw [upd_ne (ne_of_none e nC), upd_ne n1]
      exact e
    have szh : (s2.heap.push (kdv_tup [.int i0 t])).objs.size ≤ h'.objs.size := Nat.le_trans hge (Nat.le_of_lt hlt)
    have big : s2.heap.objs.size ≤ h'.objs.size := by omega
    have T0P : s2.heap.objs.size ≠ P := fun z => by
      have l2 := Heap.lt_size oP2
      rw [← z] at l2
      exact Nat.lt_irrefl _ l2
    have T0c : s2.heap.objs.size ≠ c' := fun z => by
      rw [sz, ← z] at hge
      exact Nat.not_succ_le_self _ hge
    have hfc : h'.objs.size ≠ c' := fun z => Nat.lt_irrefl _ (by rw [z] at hlt; exact hlt)
    have hfP : h'.objs.size ≠ P := fun z => by
      have l2 := Heap.lt_size oP2
      rw [← z] at l2
      exact Nat.lt_irrefl _ (Nat.lt_of_lt_of_le l2 big)
    refine h h'.objs.size c' s2.heap.objs.size t doc _ ctv _ _ I4 grow (fun p hp => ?_) (Heap.get?_push_size _ rfl) (by rw [upd_ne hfc, upd_ne hfP]; exact I2.hok.fresh big) (fr big)
      (keep _ _ T0P gT0) (by rw [upd_ne T0c, upd_ne T0P]; exact nT0) (fr (Nat.le_refl _)) upd_same
    by_cases hb : p.1 = P
    · rw [hu p hp hb, hb]
      have el : (ps ++ #[rawInt pos.line, rawInt pos.col, .ref c']).toList = ps.toList ++ [rawInt pos.line, rawInt pos.col, .ref c'] := by rw [Array.toList_append]
      refine ⟨ps ++ #[rawInt pos.line, rawInt pos.col, .ref c'], by rw [upd_ne nPc, upd_same], ?_, fun p' cv hcv => ?_⟩
      · rw [el]
        exact PySem.TriplesOk_snoc _ _ _ _ ht
      · rw [el] at hcv
        rcases among_app _ ht hcv with z | z
        · obtain ⟨c0, z1, z2⟩ := ha p' cv z
          exact ⟨c0, z1, grow _ _ z2 codeO_ne⟩
        · exact ⟨c', z, upd_same⟩
    · obtain ⟨qs, a1, a2, a3⟩ := hT p hp
      refine ⟨qs, by rw [upd_ne (ne_of_none a1 nC), upd_ne hb]; exact a1, a2, fun p' cv hcv => ?_⟩
      obtain ⟨c0, z1, z2⟩ := a3 p' cv hcv
      exact ⟨c0, z1, grow _ _ z2 codeO_ne⟩
  · obtain ⟨c', rfl, hco⟩ := ha pos cv hc
    refine kdv_makeTailHit (c := c) (mg := X.mg) clo I.ok.glob (I.mod.glob.keeps I3.bk) hcode (TB.code.keeps I3.bk) oP ht hc bP (fun ctv doc h' tk hx hsz => ?_)
    have keep : ∀ b o, (s2.heap.push (kdv_tup [.int i0 t])).get? b = some o → (h'.push (lobj X params body scope s2.heap.objs.size doc ((X.mg "__name__").getD .none) c' ctv)).get? b = some o :=
      fun b o e => Heap.get?_push_of_some _ (hx b o e)
    have I4 : Inv X pins σ H2 { s2 with heap := h'.push (lobj X params body scope s2.heap.objs.size doc ((X.mg "__name__").getD .none) c' ctv), toks := tk } := I3.kept keep
    have hsz' : (s2.heap.push (kdv_tup [.int i0 t])).objs.size ≤ h'.objs.size := hsz
    have big : s2.heap.objs.size ≤ h'.objs.size := by omega
    exact h h'.objs.size c' s2.heap.objs.size t doc _ ctv H2 _ I4 (ExtN.refl H2) hT (Heap.get?_push_size _ rfl) (I2.hok.fresh big) (fr big) (keep _ _ gT0) nT0 (fr (Nat.le_refl _)) hco
/-- the entering -/
theorem lamD_start {A : Around} {outer : List Env} {E : XK} {scope : Scope} {f c' : Addr} {h1 : Heap} {tk : Nat} {bs : List (Str × Value)} (I : Inv X pins σ H s) (L : LamD X.N X.env.scope scope)
    (e0 : Env0 X.prog X.w X.K X.mg X.base A outer s1 HZ) (hd : A.handled = none) (un : Un (frs X.stack) [] H HZ s.heap s1.heap)
    (hns : h1.Ns s1.heap.objs.size fun y => bs.reverse.lookup y) (kp : ∀ b o, s1.heap.get? b = some o → h1.get? b = some o) :
    Inv (lamCx X A outer s1 HZ E scope f c') [] σ HZ { s1 with heap := h1, toks := tk } := by
  have sub : ∀ {y : Str} {c : Addr}, (cloFrom X.env.cells scope.names []).lookup y = some c → X.env.cells.lookup y = some c := by
    intro y c e
    rcases cloFrom_mem (PySem.mem_of_lookup e) with z | ⟨z1, z2⟩
    · cases z
    · obtain ⟨c1, hc⟩ := L.has I.ok z1 rfl
      have hc' : X.env.cells.lookup y = some c1 := hc
      obtain rfl : c = c1 := by
        rw [z2, hc'] <;> rfl
      exact hc'
  have ther : ∀ {y : Str}, scope.names.lookup y = some .free → ∃ c, (cloFrom X.env.cells scope.names []).lookup y = some c := by
    intro y hl
    have hm : (y, NameKind.free) ∈ scope.names := PySem.mem_of_lookup hl
    exact mem_lookup (cloFrom_has (acc := []) (cells := X.env.cells) hm)
  have cel : ∀ {c : Addr} {v : Option Value}, H c = none → s.heap.IsCell c v → h1.IsCell c v := by
    rintro c v n ⟨o, ho, hdt⟩
    obtain ⟨sl, q⟩ := un.any ho n (by simp)
    exact ⟨_, kp _ _ q, hdt⟩
  have no : ∀ b : Addr, ¬ b ∈ ([] : List Addr) := fun b z => by cases z
  exact
    { os := rfl, bare := e0.bare, base := Un.kept kp, free := e0.hok.fresh (Nat.le_refl _), hok := e0.hok.kept kp, len := I.len
      pin := fun q hq => absurd (show q ∈ ([] : List (Addr × Obj)) ++ [] from hq) (by simp)
      freeC := fun y c e => by
        obtain ⟨v, o, ho, hdt⟩ := I.cell y c (sub e)
        exact un.free c o ho (I.freeC y c (sub e)) (by simp)
      cell := fun y c e => by
        obtain ⟨v, z⟩ := I.cell y c (sub e)
        exact ⟨v, cel (I.freeC y c (sub e)) z⟩
      ok :=
        { mod := e0.mod, kind := L.kind, glob := rfl, blt := rfl, above := Nat.le_refl _, inj := fun y z c e1 e2 => I.ok.inj y z c (sub e1) (sub e2)
          has := fun y hy => by
            have hy' : scope.names.lookup y = some .cell ∨ scope.names.lookup y = some .free := hy
            rcases hy' with z | z
            · exact absurd rfl (L.noc _ (PySem.mem_of_lookup z))
            · exact ther z
          cab := fun y c z _ => by
            have z' : false = true := z
            cases z'
          hd := fun _ => hd, frames := Around.frames_deeper e0.frames, stk := .inr ⟨rfl, rfl⟩, exf := fun b z => absurd z (no b), bs := e0.bs, bsz := e0.bsz
          noex := fun b _ _ => no b, exfs := fun b z => absurd z (no b), funs := e0.funs, frf := e0.frf }
      loc := ⟨_, hns, fun i y v e1 e2 e3 => by
        have e3' : Vis scope y := e3
        rcases e3' with k | k | k
        · have hy : y ∈ X.N := List.mem_of_getElem? e1
          exact absurd hy (L.own _ (PySem.mem_of_lookup k) rfl)
        · exact absurd rfl (L.noc _ (PySem.mem_of_lookup k))
        · obtain ⟨m, hn, hl⟩ := I.loc
          have vis : Vis X.env.scope y := (L.fre _ (PySem.mem_of_lookup k) rfl).elim (fun z => .inr (.inl z)) (fun z => .inr (.inr z))
          obtain ⟨u, r, q⟩ := hl i y v e1 e2 vis
          obtain ⟨c2, h2⟩ := ther k
          refine ⟨u, r, .inr ⟨.inr k, c2, h2, ?_⟩⟩
          have c1 := sub h2
          rcases q with ⟨k1, _⟩ | ⟨_, c3, e4, z⟩
          · have k1' : X.env.scope.names.lookup y = some .local := k1
            rcases L.fre _ (PySem.mem_of_lookup k) rfl with k2 | k2
            · have k2' : X.env.scope.names.lookup y = some .cell := k2
              rw [k2'] at k1'
              cases k1'
            · have k2' : X.env.scope.names.lookup y = some .free := k2
              rw [k2'] at k1'
              cases k1'
          · rw [c1] at e4
            cases e4
            exact cel (I.freeC y _ c1) z⟩ }
/-- what the lambda's own name stands for where it is called with nothing -/
abbrev LBind (X : Cx) (params : Arguments) (body : Expr) (scope : Scope) (i0 : Int) (bs : Tok → List (Str × Value)) : Prop :=
  ∀ (s : Shared) (T0 : Addr) (t : Tok) (doc pm cv ctv : Value), s.heap.get? T0 = some (kdv_tup [.int i0 t]) →
    BindsTo s (kdv_fn "<lambda>" (X.env.qual ++ "<lambda>") params (.expr body) scope (cloFrom X.env.cells scope.names []) (.ref T0) doc pm cv ctv) ⟨[], []⟩ (bs t)
/-- the lambda called in the def that got it -/
theorem lamD_act {CXg : CXT} {Eg : XK} {Ng : List Str} {qg : Str} {sg : Scope} {g f c' T0 : Addr} {cdg doc pm ctv : Value} {params : Arguments} {body : Expr} {scope : Scope} {k i : Nat} {a : Str} {i0 : Int} {t : Tok} {bs : Tok → List (Str × Value)}
    {pn : List (Addr × Obj)} {xe : Value → Shared → Prop} {W : WX} {E : XK} {tb : TE} {p1 p2 : Pos} (I : Inv X pins σ H s) (L : LamD X.N X.env.scope scope)
    (hf : s.heap.get? f = some (lobj X params body scope T0 doc pm c' ctv)) (nf : H f = none) (ff : f ∉ frs X.stack) (hT : s.heap.get? T0 = some (kdv_tup [.int i0 t])) (nT : H T0 = none) (fT : T0 ∉ frs X.stack)
    (hb : LBind X params body scope i0 bs) (hl : ∀ t, ∀ y ∈ bs t, scope.names.lookup y.1 = some .local)
    (tk : Takes ((cxOf CXg X.prog X.w X.K X.mg X.base Ng qg sg g cdg X.A X.stack s H Eg).tr pn xe) W) (hW : ∀ cls d σ' H', E cls d H' → W cls d σ' H') (hr : Room (k + 1) (X.A.deeper (envOfC qg sg s.heap.objs.size g cdg)))
    (hbody : ∀ (A : Around) (outer : List Env) (s : Shared) (H : Hp), Room k (A.deeper (lamEnv X scope s.heap.objs.size f c')) → PE (lamCx X A outer s H E scope f c') body tb)
    (hN : Ng[i]? = some a) (hv : Vis sg a) (hd1 : (a == ("__debug__" : Str)) = false) (hd2 : (a == ("__classdict__" : Str)) = false) :
    PE ((cxOf CXg X.prog X.w X.K X.mg X.base Ng qg sg g cdg X.A X.stack s H Eg).tr pn xe) (.Call (.Name a p1) [] [] p2)
      fun σZ HZ Q => σZ[i]? = some (some (.ref f)) ∧ HZ c' = some (CodeO c' (X.env.qual ++ "<lambda>")) ∧ tb σ HZ Q := by
  constructor
  intro pinsZ sZ σZ HZ Q IZ hq0
  obtain ⟨hs, hco, ht⟩ := hq0
  have rd := (pe_var (pos := p1) (i := i) hN hv hd1 hd2).run pinsZ sZ σZ HZ (fun v H1 => v = .ref f ∧ H1 = HZ) IZ ⟨.ref f, hs, rfl, rfl⟩
  refine wpAny_Call_Name_kw (thn rd fun u s1 hq1 => ?_)
  obtain ⟨v, H1, I1, rv, rfl, rfl⟩ := hq1
  obtain rfl : u = Value.ref f := rv
  have gone : ∀ b : Addr, ¬ b ∈ ([] : List Addr) := fun b z => by cases z
  have of : s1.heap.get? f = some (lobj X params body scope T0 doc pm c' ctv) := I1.base.keep f _ hf nf ff (gone f)
  have oT : s1.heap.get? T0 = some (kdv_tup [.int i0 t]) := I1.base.keep T0 _ hT nT fT (gone T0)
  have un : Un (frs X.stack) [] H H1 s.heap s1.heap := I1.base
  obtain ⟨⟨oc, vs, tq, hoc, hdc, hvc⟩, _, _⟩ := I1.hok c' _ hco
  refine PySem.W.callWith_F0 ⟨_, _, _, _, of⟩ (wpAny_call ?_)
  have ran : codeAny (model X.prog X.w) (X.A.deeper (envOfC qg sg s.heap.objs.size g cdg)) (.call (.ref f) ⟨[], []⟩) (CR (L2.CX X.prog X.w) (envOfC qg sg s.heap.objs.size g cdg :: X.stack) X.prog X.w H1 s1 Q E) s1 := by
    refine kla_callFunE (body := body) hr.depth of rfl L.co L.gen rfl ⟨c', oc, vs, tq, rfl, hoc, hdc, hvc⟩ (hb s1 T0 t doc pm (.ref c') ctv oT _ _ _ _ ?_)
    refine wpAny_newFunctionEnv L.noc (hl t) (fun h1 hns hsb => ⟨I1.nolimit.fresh _ hsb, ?_⟩) L.kind
    have kp : ∀ b o, s1.heap.get? b = some o → h1.get? b = some o := fun b o e => hsb.extBut b o (Nat.ne_of_lt (Heap.lt_size e)) (Heap.get?_push_of_some _ e)
    have J := lamD_start (tk := s1.toks + (bs t).length) (E := E) (f := f) (c' := c') I L I1.env0 hr.hd un hns kp
    have fin := (hbody (X.A.deeper (envOfC qg sg s.heap.objs.size g cdg)) (envOfC qg sg s.heap.objs.size g cdg :: X.stack) s1 H1 (hr.deeper _)).run [] _ σ H1 Q J ht
    show codeAny _ _ (.expr body (lamEnv X scope s1.heap.objs.size f c')) _ _
    refine kla_codeExpr (wpAny_mono fin (fun v s' hq => ?_) fun e s' hq => hq)
    obtain ⟨u, H', J', ru, q⟩ := hq
    exact ⟨u, H', J'.os, J'.bare, J'.base, J'.hok, ru, q⟩
  have out : Passes (L2.CX X.prog X.w) ((cxOf CXg X.prog X.w X.K X.mg X.base Ng qg sg g cdg X.A X.stack s H Eg).tr pn xe) E := passes_call tk hW
  refine codeAny_mono ran fun r s' hq => ?_
  cases r with
  | error e => exact out pinsZ σZ H1 s1 e s' I1 hq
  | ok fl =>
    cases fl with
    | ret u => exact I1.after hq
    | next => exact hq.elim
    | brk => exact hq.elim
    | cont => exact hq.elim
end
section
variable {X : Cx}
/-- x(lambda y=i0: body) -/
theorem pe_lamcallD {T : List (Addr × Str)} {TT : (XK → Hp → VK → Prop) → Hp → VK → Prop} {x a : Str} {g c P : Addr} {k : Nat} {pg : Arguments} {bg : List Stmt} {sg : Scope} {dV kV doc pm cdv ct oc : Value} {an od : Option Addr}
    {osl : Array (Option Value)} {Ng : List Str} {params : Arguments} {body : Expr} {scope : Scope} {t : XK → TE} {p lpos pos p0 : Pos} {i0 : Int} {bs : Tok → List (Str × Value)}
    (hg : Gl X x) (hm : X.mg x = some (.ref g)) (hk : keepIn X.K (.ref g) = true) (lk : X.K.lookup g = some ⟨oc, od, .func (fnOf x x pg bg sg dV kV doc pm an cdv ct), osl⟩) (hcg : codeIn X.K cdv x = true)
    (hb : L2.Binds X.K (fnOf x x pg bg sg dV kV doc pm an cdv ct) [a] []) (Sg : FnScope Ng [a] sg) (hNg : Ng[0]? = some a) (hva : Vis sg a) (hG : GivesTo X Ng x sg g cdv bg a (X.env.qual ++ "<lambda>") TT)
    (TB : TabB X.base X.mg c P) (hcode : X.env.code = .ref c) (hmT : (P, X.env.qual ++ "<lambda>") ∈ T) (hu : ∀ p ∈ T, p.1 = P → p.2 = X.env.qual ++ "<lambda>") (hr : Room (k + 2) X.A)
    (L : LamD X.N X.env.scope scope) (hdf : params.defaults = [.Constant (.int i0) 0 p0]) (hkd : params.kw_defaults = []) (hbs : LBind X params body scope i0 bs) (hl : ∀ t, ∀ y ∈ bs t, scope.names.lookup y.1 = some .local)
    (hbody : ∀ (A : Around) (outer : List Env) (s : Shared) (H : Hp) (E : XK) (f c' : Addr), Room k (A.deeper (lamEnv X scope s.heap.objs.size f c')) → PE (lamCx X A outer s H E scope f c') body (t E))
    (hd0 : (x == ("__debug__" : Str)) = false := by decide) (hd1 : (a == ("__debug__" : Str)) = false := by decide) (hd2 : (a == ("__classdict__" : Str)) = false := by decide) :
    PE X (.Call (.Name x p) [.Lambda params body scope lpos] [] pos) (tLam T TT t) := by
  constructor
  intro pins s σ H Q I hq
  obtain ⟨hT, hq⟩ := hq
  refine wpAny_Call_Name_kw (ld_glob I hg hm ?_ hd0)
  refine callWith_K (h₀ := X.base) I.ok.mod.kin hk ?_ (by rfl) (by rfl)
  show wpAny _ _ (spliced ((false, eval (.Lambda params body scope lpos) X.env) :: backTo pos (starEach [] X.env))) _ _ s
  refine Calls.spliced_cons (lamD_make I TB hcode hmT hu hT hdf hkd L fun f c' T0 tq doc' pm' ctv H1 s' I1 eN T1 hf nf ff hT0 nT0 fT0 hco => ?_)
  refine Calls.spliced_nil ⟨I1.kIn, wpAny_call ?_⟩
  have ran : codeAny (model X.prog X.w) X.A (.call (.ref g) ⟨[.ref f], []⟩) (CR C8.CX0 X.stack X.prog X.w H1 s' Q C8.E0) s' := by
    refine run_ofS (ps := [a]) (N := Ng) (vs := [.ref f]) (us := [.ref f]) lk hcg Sg hr I1.env0 (hb s' [.ref f] I1.kIn rfl) (.cons rfl .nil) rfl fun hr' => ?_
    obtain ⟨t', ht', hq'⟩ := hG f c' s' H1 Q (fun E H' Q' => t E σ H' Q')
      (fun W pn xe E p1 p2 tk hW => lamD_act (i := 0) I1 L hf nf ff hT0 nT0 fT0 hbs hl tk hW hr' (fun A outer s H hr2 => hbody A outer s H E f c' hr2) hNg hva hd1 hd2) hco (hq H1 eN T1)
    exact ⟨t', ht'.nox, hq'⟩
  refine codeAny_mono ran fun r s2 h2 => ?_
  cases r with
  | error e => exact (show False from h2).elim
  | ok fl =>
    cases fl with
    | ret u => exact I1.after h2
    | next => exact h2.elim
    | brk => exact h2.elim
    | cont => exact h2.elim
end
end Gd
set_option Elab.async false
set_option linter.all false
set_option maxRecDepth 100000
set_option maxHeartbeats 4000000
/-! try: .. except C1 as n: .. except C2 as n: .. -/
namespace Gd
open PySem PySem.Spec PyProof.Rows L2
/-- what a clause after the other wishes -/
def wAsM (K : PySem.W.Frag) (i : Nat) (Wout : WX) (D : Ends) : List (Value × (Addr → Value → Option Addr → TS)) → WX
  | [] => Wout
  | p :: r => wAs K p.1 i p.2 (wAsM K i Wout D r) D
/-- the clauses, all with the name n -/
inductive AsOk (X : Cx) (n : Str) : List ExceptHandler → List (Value × (Addr → Value → Option Addr → TS)) → Prop
  | nil : AsOk X n [] []
  | cons {cn : Str} {cv : Value} {rd : Addr → Value → Option Addr → TS} {st0 : Stmt} {more : List Stmt} {q1 q2 : Pos} {hs : List ExceptHandler} {ps : List (Value × (Addr → Value → Option Addr → TS))} (nm : Names X cn cv)
      (su : ∀ (x : Addr) (ob : Obj) (k : Value) (dd : Option Addr) (pn : List (Addr × Obj)), Zc k dd ob → (∃ fs, ob.data = .fields fs) → PSs (X.suite x ((x, ob) :: pn)) (st0 :: more) (rd x k dd))
      (rest : AsOk X n hs ps) : AsOk X n (.ExceptHandler (some (.Name cn q1)) (some n) (st0 :: more) q2 :: hs) ((cv, rd) :: ps)
section
variable {X : Cx} {n : Str} {i : Nat} {body : List Stmt} {h0 : ExceptHandler} {hs : List ExceptHandler} {ps : List (Value × (Addr → Value → Option Addr → TS))} {pos : Pos} {tb : WX → TS} {Wout : WX}
theorem ps_try_asM (hst : X.stack = X.env :: X.outer) (hfr : X.env.frame = some X.env.locals) (hN : X.N.Nodup) (hi : X.N[i]? = some n) (hk : X.env.kindOf n = some .local) (tk : Takes X Wout)
    (hb : ∀ (W : WX) (pn : List (Addr × Obj)) (xe : Value → Shared → Prop), Takes (X.tr pn xe) W → PassesOwn (model X.prog X.w) X.A X.env xe → PSs (X.tr pn xe) body (tb W)) (hh : AsOk X n (h0 :: hs) ps) :
    PS X (.Try body (h0 :: hs) [] [] pos) fun D σ H => tb (wAsM X.K i Wout D ps) D σ H := by
  constructor
  intro pins s σ H D I h
  have ok := I.ok
  have fra : X.A.frames = some (X.env :: X.outer) := ok.frames.trans (congrArg some hst)
  let catch_ : Value → Shared → Prop := fun e s1 => wpAny (model X.prog X.w) X.A (noteFrame e X.env)
    (fun _ s2 => wpAny (model X.prog X.w) X.A (setFlight e none) (fun _ s3 => wpAny (model X.prog X.w) X.A (handleBy e X.env (h0 :: hs)) (SP X pins D) X.xe s3) X.xe s2) X.xe s1
  have inn : Takes (X.tr (X.pn ++ pins) catch_) (wAsM X.K i Wout D ps) := by
    intro u s1 xx
    obtain ⟨x, B, sI, pins', τ, G, k, dd, rfl, J0, nb, up, sky, na, os, ag, wish⟩ := xx
    have J := J0.ofTry ok
    rw [show (X.tr (X.pn ++ pins) catch_).stack = X.env :: X.outer from hst] at sky
    show wpAny _ _ (noteFrame (.ref x) X.env) _ _ _
    refine Sky.land Zc.steady fra hfr sky fun hp lands up1 => ?_
    obtain ⟨ob, fs, gx, zx, dx⟩ := lands.there
    have J1 : Inv X pins τ G { s1 with heap := hp } := J.landed nb lands.1 (up.trans up1) os ag
    have offFrames : x ∉ frs (X.env :: X.outer) := by
      intro hm
      obtain ⟨_, o2, g2, nf⟩ := lands.2.2.1.mem hm
      rw [gx] at g2
      cases g2
      exact nf _ dx
    have xl : x ≠ X.env.locals := by
      rintro rfl
      exact offFrames (List.mem_filterMap.mpr ⟨X.env, List.mem_cons_self, hfr⟩)
    have xf : x ∉ X.fs := by
      intro hm
      obtain ⟨e, he, q⟩ := List.mem_filterMap.mp hm
      exact offFrames (List.mem_filterMap.mpr ⟨e, List.mem_cons_of_mem _ he, q⟩)
    have S1 := J1.suite gx dx na xl xf
    have step : ∀ {gs : List ExceptHandler} {rs : List (Value × (Addr → Value → Option Addr → TS))}, AsOk X n gs rs → wAsM X.K i Wout D rs k dd τ G →
        wpAny (model X.prog X.w) X.A (handleBy (.ref x) X.env gs) (SP X pins D) X.xe { s1 with heap := hp } := by
      intro gs rs hg
      induction hg with
      | nil =>
        intro w0
        refine wpAny_handleBy_nil ?_
        obtain ⟨_, _, _, ob2, fs2, T, oT, t2, g2, z2, d2, f1, _⟩ := id lands
        have out : wpAny (model X.prog X.w) X.A (setFlight (.ref x) X.env.frame) (fun _ s4 => wpAny (model X.prog X.w) X.A (throw (.ref x) : Sem Flow) (SP X pins D) X.xe s4) X.xe { s1 with heap := hp } := by
          rw [hfr]
          refine HandSPX.setFlight_upZ lands fun h4 l4 up4 => wpAny_throw (tk _ _ ?_)
          exact ⟨x, B, sI, pins, τ, G, k, dd, rfl, J, nb, (up.trans up1).trans up4, .inr (.inr (by rw [hst]; exact l4)), na, os, ag, w0⟩
        unfold PySem.passOn
        refine wpAny_bind (wpAny_field g2 d2 f1 ?_)
        have nN : ¬ ((Value.ref T == Value.none) = true) := by simp
        rw [if_neg nN]
        first
          | exact wpAny_bind out
          | exact wpAny_bind (wpAny_pure (wpAny_bind out))
      | @cons cn cv rd st0 more q1 q2 hs2 ps2 nm su rest ih =>
        rintro ⟨b, eb, yes, no⟩
        refine wpAny_handleBy_cons (codeAny_handlers_test ?_) (by intro q; cases q)
        have lk : PySem.W.Looks (model X.prog X.w) hp (typeOf (.ref x)) k := fun A Q E s2 kp q => wpAny_typeOf_ref (kp _ _ gx) (by rw [zx.1]; exact q)
        have mt := PySem.W.exm_one (M := model X.prog X.w) J1.kIn lk eb
        have ask : ∀ {R E : Value → Shared → Prop}, R cv { s1 with heap := hp } → wpAny (model X.prog X.w) (X.A.mark (some (.ref x))) (eval (.Name cn q1) X.env) R E { s1 with heap := hp } := by
          intro R E q
          obtain ⟨g1, dbg, m1 | ⟨m1, v1, n1⟩⟩ := nm
          · exact ld_glob (X := X.suite x ((x, ob) :: (X.pn ++ pins))) S1 g1 m1 q dbg
          · exact ld_blt (X := X.suite x ((x, ob) :: (X.pn ++ pins))) S1 g1 m1 v1 q n1 dbg
        refine ask (mt.here ?_)
        cases b with
        | false =>
          show wpAny _ X.A (handleBy (.ref x) X.env hs2) _ _ _
          exact ih (no rfl)
        | true =>
          refine codeAny_handlers_suite_as (HandSPX.lands_againZ lands fun h4 l4 up4 => ?_)
          obtain ⟨ob4, fs4, g4, z4, d4⟩ := l4.there
          have S4 := (J.landed (s' := { s1 with heap := h4 }) nb l4.1 ((up.trans up1).trans up4) os ag).suite g4 d4 na xl xf
          refine store_ok (X := X.suite x ((x, ob4) :: (X.pn ++ pins))) (v := .ref x) S4 hN hi (.inl hk) rfl (fun s5 S5 => ?_) (.inr hk)
          have run := (su x ob4 k dd (X.pn ++ pins) z4 ⟨_, d4⟩).run [] s5 _ G _ S5 (yes rfl x na)
          refine wpAny_mono run (fun fl s6 hsp => ?_) (fun _ _ z => z.elim)
          have leave : ∀ {τ6 : L2.St} {G6 : Hp} {R : Shared → Prop}, Inv (X.suite x ((x, ob4) :: (X.pn ++ pins))) [] τ6 G6 s6 → (∀ s7, Inv X pins (τ6.set i none) G6 s7 → R s7) →
              wpAny (model X.prog X.w) X.A (do bindName X.env n .none; unbindBehindTheSuite X.env n q2) (fun _ s7 => R s7) X.xe s6 := fun {τ6 G6 R} S6 hq => gone_ok (S6.unsuite ok) hN hi hk hq
          cases fl with
          | next =>
            obtain ⟨τ6, G6, S6, q6⟩ := hsp
            exact leave S6 fun s7 J7 => ⟨_, _, J7, q6⟩
          | brk =>
            obtain ⟨τ6, G6, S6, q6⟩ := hsp
            exact leave S6 fun s7 J7 => ⟨_, _, J7, q6⟩
          | cont =>
            obtain ⟨τ6, G6, S6, q6⟩ := hsp
            exact leave S6 fun s7 J7 => ⟨_, _, J7, q6⟩
          | ret u =>
            obtain ⟨v6, τ6, G6, S6, r6, q6⟩ := hsp
            exact leave S6 fun s7 J7 => ⟨_, _, _, J7, r6, q6⟩
    exact step hh wish
  have ran := (hb (wAsM X.K i Wout D ps) (X.pn ++ pins) catch_ inn PassesOwn.looking).run [] s σ H D (I.toTry _) h
  refine wpAny_Try_except (wpAny_mono ran (fun fl s1 hsp => ?_) fun e s1 he => he)
  cases fl with
  | next =>
    obtain ⟨τ, G, J, q⟩ := hsp
    exact wpAny_execs_nil ⟨τ, G, J.ofTry ok, q⟩
  | brk =>
    obtain ⟨τ, G, J, q⟩ := hsp
    exact ⟨τ, G, J.ofTry ok, q⟩
  | cont =>
    obtain ⟨τ, G, J, q⟩ := hsp
    exact ⟨τ, G, J.ofTry ok, q⟩
  | ret u =>
    obtain ⟨v, τ, G, J, r, q⟩ := hsp
    exact ⟨v, τ, G, J.ofTry ok, r, q⟩
end
end Gd
set_option Elab.async false
set_option linter.all false
set_option maxRecDepth 100000
set_option maxHeartbeats 4000000
namespace Gd
open PySem L2
/-! ### the draws' state -/
def mD (l sd : Int) (c : Addr) (sp : Int) : List (Key × V) := [(.inr "left", .int l), (.inr "seed", .int sd), (.inr "cells", .ref c), (.inr "spot", .int sp)]
theorem sne1 : ¬ ("left" : Str) = "seed" := by decide +kernel
theorem sne2 : ¬ ("left" : Str) = "cells" := by decide +kernel
theorem sne3 : ¬ ("left" : Str) = "spot" := by decide +kernel
theorem sne4 : ¬ ("seed" : Str) = "cells" := by decide +kernel
theorem sne5 : ¬ ("seed" : Str) = "spot" := by decide +kernel
theorem sne6 : ¬ ("cells" : Str) = "spot" := by decide +kernel
theorem inr_ne {a b : Str} (h : ¬ a = b) : ¬ (Sum.inr a : Key) = Sum.inr b := fun z => h (Sum.inr.inj z)
theorem v_left (l sd : Int) (c : Addr) (sp : Int) : valV (mD l sd c sp) (.inr "left") = some (.int l) := valV_pos rfl
theorem v_seed (l sd : Int) (c : Addr) (sp : Int) : valV (mD l sd c sp) (.inr "seed") = some (.int sd) := by
  unfold mD
  rw [valV_neg (inr_ne sne1), valV_pos rfl]
theorem v_cells (l sd : Int) (c : Addr) (sp : Int) : valV (mD l sd c sp) (.inr "cells") = some (.ref c) := by
  unfold mD
  rw [valV_neg (inr_ne sne2), valV_neg (inr_ne sne4), valV_pos rfl]
theorem v_spot (l sd : Int) (c : Addr) (sp : Int) : valV (mD l sd c sp) (.inr "spot") = some (.int sp) := by
  unfold mD
  rw [valV_neg (inr_ne sne3), valV_neg (inr_ne sne5), valV_neg (inr_ne sne6), valV_pos rfl]
theorem p_left (l sd : Int) (c : Addr) (sp y : Int) : putK (mD l sd c sp) (.inr "left") (.int y) = mD y sd c sp := by
  have h1 : ¬ (Sum.inr "seed" : Key) = Sum.inr ("left" : Str) := inr_ne fun z => sne1 z.symm
  have h2 : ¬ (Sum.inr "cells" : Key) = Sum.inr ("left" : Str) := inr_ne fun z => sne2 z.symm
  have h3 : ¬ (Sum.inr "spot" : Key) = Sum.inr ("left" : Str) := inr_ne fun z => sne3 z.symm
  unfold mD putK
  rw [if_pos (by simp)]
  simp only [List.map_cons, List.map_nil, if_pos, if_neg h1, if_neg h2, if_neg h3]
theorem p_spot (l sd : Int) (c : Addr) (sp y : Int) : putK (mD l sd c sp) (.inr "spot") (.int y) = mD l sd c y := by
  have h1 : ¬ (Sum.inr "left" : Key) = Sum.inr ("spot" : Str) := inr_ne sne3
  have h2 : ¬ (Sum.inr "seed" : Key) = Sum.inr ("spot" : Str) := inr_ne sne5
  have h3 : ¬ (Sum.inr "cells" : Key) = Sum.inr ("spot" : Str) := inr_ne sne6
  unfold mD putK
  rw [if_pos (by simp)]
  simp only [List.map_cons, List.map_nil, if_pos, if_neg h1, if_neg h2, if_neg h3]
section
variable {H : Hp} {m : Addr} {l sd sp : Int} {c : Addr}
theorem g_left (h : H m = some (.dK (mD l sd c sp))) : DGet H m (.str "left") (some (.int l)) := by rw [← v_left l sd c sp]; exact DGet.k (k := Sum.inr "left") h
theorem g_seed (h : H m = some (.dK (mD l sd c sp))) : DGet H m (.str "seed") (some (.int sd)) := by rw [← v_seed l sd c sp]; exact DGet.k (k := Sum.inr "seed") h
theorem g_cells (h : H m = some (.dK (mD l sd c sp))) : DGet H m (.str "cells") (some (.ref c)) := by rw [← v_cells l sd c sp]; exact DGet.k (k := Sum.inr "cells") h
theorem g_spot (h : H m = some (.dK (mD l sd c sp))) : DGet H m (.str "spot") (some (.int sp)) := by rw [← v_spot l sd c sp]; exact DGet.k (k := Sum.inr "spot") h
theorem u_left (y : Int) (h : H m = some (.dK (mD l sd c sp))) : DPut H m (.str "left") (.int y) (upd H m (.dK (mD y sd c sp))) := by
  rw [← p_left l sd c sp]; exact DPut.k (k := Sum.inr "left") (v := .int y) h (by rw [sizeLine_eq]; show 4 < _; decide)
theorem u_spot (y : Int) (h : H m = some (.dK (mD l sd c sp))) : DPut H m (.str "spot") (.int y) (upd H m (.dK (mD l sd c y))) := by
  rw [← p_spot l sd c sp]; exact DPut.k (k := Sum.inr "spot") (v := .int y) h (by rw [sizeLine_eq]; show 4 < _; decide)
end
/-- the draws' state stands at m, at most n draws were made -/
structure MOk (H : Hp) (m c : Addr) (n : Nat) : Prop where
  ex : ∃ (l sd : Int) (sp : Int) (cs : List Int), H m = some (.dK (mD l sd c sp)) ∧ H c = some (.lst (cs.map V.int)) ∧ 0 < cs.length ∧ cs.length ≤ 200 ∧ 0 ≤ sp ∧ sp ≤ n
/-- all but m stands as it was -/
def Grow (m : Addr) (H H' : Hp) : Prop := ∀ b o, b ≠ m → H b = some o → H' b = some o
theorem Grow.refl (m : Addr) (H : Hp) : Grow m H H := fun _ _ _ h => h
theorem Grow.trans {m : Addr} {H H1 H2 : Hp} (a : Grow m H H1) (b : Grow m H1 H2) : Grow m H H2 := fun c o n h => b c o n (a c o n h)
theorem Grow.upd (m : Addr) (H : Hp) (o : HO) : Grow m H (upd H m o) := fun b u n h => by rw [upd_ne n]; exact h
theorem Grow.new {m p : Addr} {H : Hp} {o : HO} (h : H p = none) : Grow m H (L2.upd H p o) := fun b u n e => by rw [upd_ne (ne_of_none e h)]; exact e
theorem MOk.new {m c p : Addr} {H : Hp} {o : HO} {n : Nat} (M : MOk H m c n) (h : H p = none) : MOk (L2.upd H p o) m c n := by
  obtain ⟨l, sd, sp, cs, h1, h2, r⟩ := M.ex
  exact ⟨l, sd, sp, cs, by rw [upd_ne (ne_of_none h1 h)]; exact h1, by rw [upd_ne (ne_of_none h2 h)]; exact h2, r⟩
theorem MOk.set {m c p : Addr} {H : Hp} {o : HO} {n : Nat} (M : MOk H m c n) (h1 : p ≠ m) (h2 : p ≠ c) : MOk (L2.upd H p o) m c n := by
  obtain ⟨l, sd, sp, cs, e1, e2, r⟩ := M.ex
  exact ⟨l, sd, sp, cs, by rw [upd_ne h1.symm]; exact e1, by rw [upd_ne h2.symm]; exact e2, r⟩
theorem MOk.up {m c : Addr} {H : Hp} {n k : Nat} (M : MOk H m c n) (h : n ≤ k) : MOk H m c k := by
  obtain ⟨l, sd, sp, cs, h1, h2, h3, h4, h5, h6⟩ := M.ex
  exact ⟨l, sd, sp, cs, h1, h2, h3, h4, h5, by omega⟩

end Gd
set_option Elab.async false
set_option linter.all false
set_option maxRecDepth 100000
set_option maxHeartbeats 4000000
set_option autoImplicit false
/-! the data calculus: readings over data alone -/
namespace DC
open PySem L2 Gd
/-- a list, a tuple, a dict -/
def dataO : HO → Bool
  | .lst _ => true
  | .tup _ => true
  | .dK _ => true
  | .dT _ => true
  | _ => false
theorem dataO.nt {o : HO} (h : dataO o = true) : ∀ ps, o ≠ HO.tbl ps := by
  intro ps z
  rw [z] at h
  cases h
/-- how a heap is looked at: what is seen of it, what holds of it, how it may grow -/
structure Ctx where
  vw : Hp → Hp
  inv : Nat → Hp → Prop
  R : Hp → Hp → Prop
  refl : ∀ H, R H H
  trans : ∀ {H H1 H2}, R H H1 → R H1 H2 → R H H2
  vwm : ∀ {H H'}, R H H' → ∀ b o, vw H b = some o → vw H' b = some o
  sub : ∀ {H : Hp} b o, vw H b = some o → H b = some o
  mono : ∀ {G H : Hp}, (∀ b o, G b = some o → H b = some o) → ∀ b o, vw G b = some o → vw H b = some o
  new : ∀ {n : Nat} {H : Hp} {p : Addr} (o : HO), inv n H → H p = none → (hn : ∀ ps, o ≠ HO.tbl ps := by intro _ z; cases z) → R H (upd H p o) ∧ inv n (upd H p o) ∧ vw (upd H p o) p = some o
  same : ∀ {n H H'}, inv n H → Same H H' → R H H' ∧ inv n H'
  fresh : ∀ {n : Nat} {H H' : Hp} {b : Addr} {o : HO}, inv n H → Same H H' → H b = none → H' b = some o → (∀ ps, o ≠ HO.tbl ps) → vw H' b = some o
  /-- what is kept, hidden from data -/
  hid : Addr → Prop
  kept : ∀ {H H' : Hp} {a : Addr} {o : HO}, R H H' → hid a → H a = some o → dataO o = true → H' a = some o
  live : ∀ {n : Nat} {H : Hp} {a : Addr}, inv n H → hid a → ∃ o, H a = some o ∧ dataO o = true
/-- nothing is hidden -/
def pureC : Ctx where
  vw := id
  inv := fun _ _ => True
  R := Same
  refl := Same.refl
  trans := Same.trans
  vwm := fun h => h
  sub := fun _ _ h => h
  mono := fun h => h
  new := fun {n H p} o _ h _ => ⟨fun b u e => by rw [upd_ne (ne_of_none e h)]; exact e, trivial, upd_same⟩
  same := fun _ h => ⟨h, trivial⟩
  fresh := fun _ _ _ h _ => h
  hid := fun _ => False
  kept := fun _ h => h.elim
  live := fun _ h => h.elim
/-- the heap but for m -/
def off (H : Hp) (m : Addr) : Hp := fun b => if b = m then none else H b
theorem off_ne {H : Hp} {m b : Addr} (h : b ≠ m) : off H m b = H b := if_neg h
theorem off_at {H : Hp} {m : Addr} : off H m m = none := if_pos rfl
theorem off_some {H : Hp} {m b : Addr} {o : HO} (h : off H m b = some o) : b ≠ m ∧ H b = some o := by
  by_cases e : b = m
  · rw [e, off_at] at h; cases h
  · rw [off_ne e] at h; exact ⟨e, h⟩
theorem off_mono {G H : Hp} {m : Addr} (h : ∀ b o, G b = some o → H b = some o) : ∀ b o, off G m b = some o → off H m b = some o := fun b o e => by
  obtain ⟨h1, h2⟩ := off_some e
  rw [off_ne h1]; exact h b o h2
theorem off_grow {m : Addr} {H H' : Hp} (g : Grow m H H') : ∀ b o, off H m b = some o → off H' m b = some o := fun b o e => by
  obtain ⟨h1, h2⟩ := off_some e
  rw [off_ne h1]; exact g b o h1 h2
theorem off_upd {H : Hp} {m p : Addr} {o : HO} (h : p ≠ m) : off (upd H p o) m = upd (off H m) p o := by
  funext b
  by_cases e : b = p
  · rw [e, upd_same, off_ne h, upd_same]
  · rw [upd_ne e]
    by_cases e2 : b = m
    · rw [e2, off_at, off_at]
    · rw [off_ne e2, off_ne e2, upd_ne e]
theorem off_upd_at {H : Hp} {m : Addr} {o : HO} : off (upd H m o) m = off H m := by
  funext b
  by_cases e : b = m
  · rw [e, off_at, off_at]
  · rw [off_ne e, off_ne e, upd_ne e]
theorem off_none {H : Hp} {m : Addr} (h : H m = none) : off H m = H := by
  funext b
  by_cases e : b = m
  · rw [e, off_at, h]
  · rw [off_ne e]
theorem upd_off {H : Hp} {m : Addr} {o : HO} (h : H m = some o) : upd (off H m) m o = H := by
  funext b
  by_cases e : b = m
  · rw [e, upd_same, h]
  · rw [upd_ne e, off_ne e]
theorem mok_same {H H' : Hp} {m c : Addr} {n : Nat} (M : MOk H m c n) (s : Same H H') : MOk H' m c n := by
  obtain ⟨l, sd, sp, cs, h1, h2, r⟩ := M.ex
  exact ⟨l, sd, sp, cs, s _ _ h1, s _ _ h2, r⟩
/-- the draws' state at m is hidden -/
def drawC (m c : Addr) : Ctx where
  vw := fun H => off H m
  inv := fun n H => MOk H m c n
  R := fun H H' => Grow m H H'
  refl := fun H => Grow.refl m H
  trans := fun a b => Grow.trans a b
  vwm := fun g => off_grow g
  sub := fun _ _ h => (off_some h).2
  mono := fun h => off_mono h
  new := fun {n H p} o M h _ => by
    refine ⟨Grow.new h, M.new h, ?_⟩
    obtain ⟨l, sd, sp, cs, h1, _⟩ := M.ex
    rw [off_ne (ne_of_none h1 h).symm]
    exact upd_same
  same := fun M s => ⟨fun b o _ e => s b o e, mok_same M s⟩
  fresh := fun {n H H' b o} M _ h e _ => by
    obtain ⟨l, sd, sp, cs, h1, _⟩ := M.ex
    rw [off_ne (ne_of_none h1 h).symm]
    exact e
  hid := fun _ => False
  kept := fun _ h => h.elim
  live := fun _ h => h.elim
/-- the object at D is hidden besides, and stays as it is -/
def hideC (C : Ctx) (D : Addr) : Ctx where
  vw := fun H => C.vw (off H D)
  inv := fun n H => C.inv n (off H D) ∧ (∃ o, H D = some o ∧ dataO o = true) ∧ ¬ C.hid D
  R := fun H H' => C.R (off H D) (off H' D) ∧ ∀ o, H D = some o → H' D = some o
  refl := fun H => ⟨C.refl _, fun _ h => h⟩
  trans := fun a b => ⟨C.trans a.1 b.1, fun o h => b.2 o (a.2 o h)⟩
  vwm := fun g => C.vwm g.1
  sub := fun _ _ h => (off_some (C.sub _ _ h)).2
  mono := fun h => C.mono (off_mono h)
  new := fun {n H p} o i h hn => by
    obtain ⟨i, ⟨u, hx, hu⟩, hd⟩ := i
    have hp : p ≠ D := (ne_of_none hx h).symm
    have h' : off H D p = none := by rw [off_ne hp]; exact h
    obtain ⟨a, b, c⟩ := C.new o i h' hn
    rw [off_upd hp]
    exact ⟨⟨a, fun u e => by rw [upd_ne hp.symm]; exact e⟩, ⟨b, ⟨u, by rw [upd_ne hp.symm]; exact hx, hu⟩, hd⟩, c⟩
  same := fun {n H H'} i s => by
    obtain ⟨i, ⟨u, hx, hu⟩, hd⟩ := i
    obtain ⟨a, b⟩ := C.same i (H' := off H' D) (off_mono s)
    exact ⟨⟨a, fun u e => s _ _ e⟩, b, ⟨u, s _ _ hx, hu⟩, hd⟩
  fresh := fun {n H H' b o} i s h e hn => by
    obtain ⟨i, ⟨u, hx, hu⟩, hd⟩ := i
    have hb : b ≠ D := (ne_of_none hx h).symm
    exact C.fresh i (H' := off H' D) (off_mono s) (by rw [off_ne hb]; exact h) (by rw [off_ne hb]; exact e) hn
  hid := C.hid
  kept := fun {H H' a o} r h e hn => by
    by_cases q : a = D
    · rw [q] at e ⊢; exact r.2 o e
    · have := C.kept r.1 h (show off H D a = some o by rw [off_ne q]; exact e) hn
      rwa [off_ne q] at this
  live := fun {n H a} i h => by
    obtain ⟨o, e, hn⟩ := C.live i.1 h
    exact ⟨o, (off_some e).2, hn⟩
/-- draws are made by m -/
structure HasM (C : Ctx) (m c : Addr) : Prop where
  get : ∀ {n H}, C.inv n H → MOk H m c n
  put : ∀ {n n' H H'}, C.inv n H → MOk H' m c n' → Grow m H H' → C.R H H' ∧ C.inv n' H'
theorem hasM_draw (m c : Addr) : HasM (drawC m c) m c := ⟨fun i => i, fun _ M g => ⟨g, M⟩⟩
theorem mok_off {H : Hp} {m c D : Addr} {n : Nat} (M : MOk H m c n) (h1 : D ≠ m) (h2 : D ≠ c) : MOk (off H D) m c n := by
  obtain ⟨l, sd, sp, cs, e1, e2, r⟩ := M.ex
  exact ⟨l, sd, sp, cs, by rw [off_ne h1.symm]; exact e1, by rw [off_ne h2.symm]; exact e2, r⟩
theorem mok_in {H : Hp} {m c D : Addr} {n : Nat} (M : MOk (off H D) m c n) : MOk H m c n ∧ D ≠ m ∧ D ≠ c := by
  obtain ⟨l, sd, sp, cs, e1, e2, r⟩ := M.ex
  obtain ⟨a1, a2⟩ := off_some e1
  obtain ⟨b1, b2⟩ := off_some e2
  exact ⟨⟨l, sd, sp, cs, a2, b2, r⟩, a1.symm, b1.symm⟩
theorem HasM.hide {C : Ctx} {m c D : Addr} (h : HasM C m c) : HasM (hideC C D) m c where
  get := fun i => (mok_in (h.get i.1)).1
  put := fun {n n' H H'} i M g => by
    obtain ⟨_, d1, d2⟩ := mok_in (h.get i.1)
    have g' : Grow m (off H D) (off H' D) := fun b o hb e => by
      obtain ⟨q1, q2⟩ := off_some e
      rw [off_ne q1]; exact g b o hb q2
    obtain ⟨a, b⟩ := h.put i.1 (mok_off M d1 d2) g'
    obtain ⟨⟨u, hx, hu⟩, hd⟩ := i.2
    exact ⟨⟨a, fun o e => g _ _ d1 e⟩, b, ⟨u, g _ _ d1 hx, hu⟩, hd⟩
/-- C' can do what C can -/
structure Le (C C' : Ctx) : Prop where
  m : ∀ {m c}, HasM C m c → HasM C' m c
  ex : C' = C ∨ ∃ D, C' = hideC C D
theorem Le.refl (C : Ctx) : Le C C := ⟨fun h => h, .inl rfl⟩
theorem Le.hide (C : Ctx) (D : Addr) : Le C (hideC C D) := ⟨fun h => h.hide, .inr ⟨D, rfl⟩⟩

/-! ### values, environments -/
/-- what is one's own, and may change: a list -/
inductive OD where
  | l (ds : List PyData)
def OwnF (H G : Hp) (v : V) : OD → List Addr → Prop
  | .l ds, L => ∃ a vs, v = .ref a ∧ L = [a] ∧ H a = some (.lst vs) ∧ DaL G vs ds
def OD.up : OD → PyData
  | .l ds => .list ds
theorem OwnF.mono {H G H' G' : Hp} {v : V} {x : OD} {L : List Addr} (h : OwnF H G v x L) (g : ∀ b o, G b = some o → G' b = some o) (k : ∀ a o, a ∈ L → H a = some o → dataO o = true → H' a = some o) : OwnF H' G' v x L := by
  cases x with
  | l ds =>
    obtain ⟨a, vs, e1, e2, e3, e4⟩ := h
    exact ⟨a, vs, e1, e2, k a _ (by rw [e2]; exact List.mem_singleton_self a) e3 rfl, e4.mono g⟩
inductive DVal where
  | d (x : PyData)
  | h (v : V)
  | o (x : OD)
def Rep (C : Ctx) (H : Hp) (v : V) : DVal → Prop
  | .d x => Da (C.vw H) v x
  | .h u => v = u
  | .o x => ∃ L, (∀ a ∈ L, C.hid a) ∧ OwnF H (C.vw H) v x L
theorem Rep.up {C : Ctx} {H H' : Hp} {v : V} {x : DVal} (r : Rep C H v x) (g : C.R H H') : Rep C H' v x := by
  cases x with
  | d x => exact Da.mono (C.vwm g) r
  | h u => exact r
  | o x =>
    obtain ⟨L, h1, h2⟩ := r
    exact ⟨L, h1, h2.mono (C.vwm g) fun a o ha e hn => C.kept g (h1 a ha) e hn⟩
section
variable {C : Ctx} {H : Hp}
theorem Rep.non : Rep C H .non (.d .none) := Da.non
theorem Rep.bl (b : Bool) : Rep C H (.bl b) (.d (.bool b)) := Da.bl b
theorem Rep.int (i : Int) : Rep C H (.int i) (.d (.int i)) := Da.int i
theorem Rep.str (x : Str) : Rep C H (.str x) (.d (.str x)) := Da.str x
theorem Rep.lst {a : Addr} {xs : List V} {ds : List PyData} (h : C.vw H a = some (.lst xs)) (r : DaL (C.vw H) xs ds) : Rep C H (.ref a) (.d (.list ds)) := Da.lst h r
theorem Rep.tup {a : Addr} {xs : List V} {ds : List PyData} (h : C.vw H a = some (.tup xs)) (r : DaL (C.vw H) xs ds) : Rep C H (.ref a) (.d (.tuple ds)) := Da.tup h r
end
abbrev Dv := List (Option DVal)
structure En (C : Ctx) (H : Hp) (σ : St) (ρ : Dv) : Prop where
  len : σ.length = ρ.length
  get : ∀ (i : Nat) (x : DVal), ρ[i]? = some (some x) → ∃ v, σ[i]? = some (some v) ∧ Rep C H v x
theorem En.up {C : Ctx} {H H' : Hp} {σ : St} {ρ : Dv} (e : En C H σ ρ) (g : C.R H H') : En C H' σ ρ := ⟨e.len, fun i x h => by
  obtain ⟨v, h1, h2⟩ := e.get i x h
  exact ⟨v, h1, h2.up g⟩⟩
theorem En.set {C : Ctx} {H : Hp} {σ : St} {ρ : Dv} {i : Nat} {v : V} {x : DVal} (e : En C H σ ρ) (r : Rep C H v x) : En C H (σ.set i (some v)) (ρ.set i (some x)) := ⟨by rw [List.length_set, List.length_set, e.len], fun j y h => by
  by_cases q : i = j
  · subst q
    rw [List.getElem?_set] at h
    simp only [if_true] at h
    split at h
    · next hl =>
      cases h
      exact ⟨v, by rw [List.getElem?_set]; simp [e.len, hl], r⟩
    · cases h
  · rw [List.getElem?_set_ne q] at h ⊢
    exact e.get j y h⟩
/-- what of the exceptions is wanted -/
abbrev XP := Nat → Addr → Str → PyData → Prop
def XOk (C : Ctx) (H : Hp) (E : XK) (X : XP) : Prop := ∀ cls f dd v d n H', C.R H H' → C.inv n H' → C.vw H' dd = some (.xd [(f, v)]) → Da (C.vw H') v d → X n cls f d → E (.ref cls) (some dd) H'
theorem XOk.up {C : Ctx} {H H' : Hp} {E : XK} {X : XP} (x : XOk C H E X) (g : C.R H H') : XOk C H' E X := fun cls f dd v d n H2 g2 => x cls f dd v d n H2 (C.trans g g2)
def EJ (C : Ctx) (E : XK) (X : XP) (n : Nat) (ρ : Dv) (t : TE) (P : Nat → DVal → Prop) : Prop := ∀ σ H Q, C.inv n H → En C H σ ρ → XOk C H E X → (∀ v x n' H', C.R H H' → C.inv n' H' → Rep C H' v x → P n' x → Q v H') → t σ H Q
def TJ (C : Ctx) (E : XK) (X : XP) (n : Nat) (ρ : Dv) (t : TT) (P : Nat → Bool → Prop) : Prop := ∀ σ H Q, C.inv n H → En C H σ ρ → XOk C H E X → (∀ b n' H', C.R H H' → C.inv n' H' → P n' b → Q b H') → t σ H Q
def RepL (C : Ctx) (H : Hp) : List V → List DVal → Prop
  | [], [] => True
  | v :: vs, x :: xs => Rep C H v x ∧ RepL C H vs xs
  | _, _ => False
theorem RepL.up {C : Ctx} {H H' : Hp} (g : C.R H H') : ∀ {vs : List V} {xs : List DVal}, RepL C H vs xs → RepL C H' vs xs
  | [], [], _ => trivial
  | _ :: _, _ :: _, h => ⟨h.1.up g, RepL.up g h.2⟩
theorem RepL.len {C : Ctx} {H : Hp} : ∀ {vs : List V} {xs : List DVal}, RepL C H vs xs → vs.length = xs.length
  | [], [], _ => rfl
  | _ :: _, _ :: _, h => congrArg (· + 1) (RepL.len h.2)
def AJ (C : Ctx) (E : XK) (X : XP) (n : Nat) (ρ : Dv) (t : TA) (P : Nat → List DVal → Prop) : Prop := ∀ σ H Q, C.inv n H → En C H σ ρ → XOk C H E X → (∀ vs xs n' H', C.R H H' → C.inv n' H' → RepL C H' vs xs → P n' xs → Q vs H') → t σ H Q
structure Post where
  nx : Nat → Dv → Prop
  rt : Nat → DVal → Prop
  bk : Nat → Dv → Prop
  ct : Nat → Dv → Prop
structure EndsOk (C : Ctx) (H : Hp) (D : Ends) (p : Post) : Prop where
  nx : ∀ σ' ρ' n' H', C.R H H' → C.inv n' H' → En C H' σ' ρ' → p.nx n' ρ' → D.nx σ' H'
  rt : ∀ v x n' H', C.R H H' → C.inv n' H' → Rep C H' v x → p.rt n' x → D.rt v H'
  bk : ∀ σ' ρ' n' H', C.R H H' → C.inv n' H' → En C H' σ' ρ' → p.bk n' ρ' → D.bk σ' H'
  ct : ∀ σ' ρ' n' H', C.R H H' → C.inv n' H' → En C H' σ' ρ' → p.ct n' ρ' → D.ct σ' H'
theorem EndsOk.up {C : Ctx} {H H' : Hp} {D : Ends} {p : Post} (e : EndsOk C H D p) (g : C.R H H') : EndsOk C H' D p :=
  ⟨fun a b c d k => e.nx a b c d (C.trans g k), fun a b c d k => e.rt a b c d (C.trans g k), fun a b c d k => e.bk a b c d (C.trans g k), fun a b c d k => e.ct a b c d (C.trans g k)⟩
def SJ (C : Ctx) (E : XK) (X : XP) (n : Nat) (ρ : Dv) (t : TS) (p : Post) : Prop := ∀ σ H D, C.inv n H → En C H σ ρ → XOk C H E X → EndsOk C H D p → t D σ H

/-! ### the promise of a def -/
abbrev SpD := Ctx → Nat → List DVal → (Nat → DVal → Prop) → XP → Prop
def spG (s : SpD) : Sp := fun vs H Q E => ∃ (C : Ctx) (n : Nat) (xs : List DVal) (P : Nat → DVal → Prop) (X : XP), C.inv n H ∧ RepL C H vs xs ∧ s C n xs P X ∧ (∀ v x n' H', C.R H H' → C.inv n' H' → Rep C H' v x → P n' x → Q v H') ∧ XOk C H E X
theorem spG_len {s : SpD} {vs : List V} {H : Hp} {Q : VK} {E : XK} {k : Nat} (h : spG s vs H Q E) (hk : ∀ C n xs P X, s C n xs P X → xs.length = k) : vs.length = k := by
  obtain ⟨C, n, xs, P, X, _, r, hs, _⟩ := h
  rw [r.len]
  exact hk _ _ _ _ _ hs
def ρ0 (N : List Str) (xs : List DVal) : Dv := xs.map some ++ List.replicate (N.length - xs.length) none
theorem en0 {C : Ctx} {H : Hp} {N : List Str} {vs : List V} {xs : List DVal} (r : RepL C H vs xs) : En C H (L2.start N vs) (ρ0 N xs) := by
  have hl := r.len
  refine ⟨by simp [L2.start, ρ0, hl], fun i x h => ?_⟩
  unfold ρ0 at h
  unfold L2.start
  have key : ∀ (vs : List V) (xs : List DVal) (i : Nat), RepL C H vs xs → (xs.map some)[i]? = some (some x) → ∃ v, (vs.map some)[i]? = some (some v) ∧ Rep C H v x := by
    intro vs
    induction vs with
    | nil =>
      intro xs i r h
      cases xs with
      | nil => simp at h
      | cons _ _ => exact r.elim
    | cons v vs ih =>
      intro xs i r h
      cases xs with
      | nil => exact r.elim
      | cons y ys =>
        cases i with
        | zero =>
          simp at h
          subst h
          exact ⟨v, by simp, r.1⟩
        | succ i =>
          obtain ⟨u, h1, h2⟩ := ih ys i r.2 (by simpa using h)
          exact ⟨u, by simpa using h1, h2⟩
  by_cases hi : i < xs.length
  · rw [List.getElem?_append_left (by simpa using hi)] at h
    obtain ⟨v, h1, h2⟩ := key vs xs i r h
    exact ⟨v, by rw [List.getElem?_append_left (by simp; omega)]; exact h1, h2⟩
  · rw [List.getElem?_append_right (by simpa using hi)] at h
    rw [List.getElem?_replicate] at h
    split at h <;> cases h
/-- a body by its judgement -/
theorem run0 {s : SpD} {N : List Str} {vs : List V} {H : Hp} {Q : VK} {E : XK} {t : TS} (h : spG s vs H Q E)
    (hs : ∀ C n xs P X, s C n xs P X → SJ C E X n (ρ0 N xs) t ⟨fun n' _ => P n' (.d .none), P, fun _ _ => False, fun _ _ => False⟩) : t { nx := fun _ H' => Q .non H', rt := Q } (L2.start N vs) H := by
  obtain ⟨C, n, xs, P, X, i, r, h1, k, x⟩ := h
  exact hs C n xs P X h1 (L2.start N vs) H _ i (en0 r) x ⟨fun σ' ρ' n' H' g j _ p => k .non (.d .none) n' H' g j .non p, fun v x n' H' g j r p => k v x n' H' g j r p, fun _ _ _ _ _ _ _ p => p.elim, fun _ _ _ _ _ _ _ p => p.elim⟩
end DC
set_option Elab.async false
set_option linter.all false
set_option maxRecDepth 100000
set_option maxHeartbeats 4000000
namespace Gd
open PySem L2
structure At (K : PySem.W.Frag) (mg : Str → Option Value) (x : Str) (st : Stmt) (ps : List Str) (f : Addr) (fd : FuncData) : Prop where
  F : Fun K x x st f fd
  g : mg x = some (.ref f)
  b : Binds K fd ps []
/-! ### kinds of data -/
def kd : PyData → String
  | .none => "NoneType"
  | .bool _ => "bool"
  | .int _ => "int"
  | .str _ => "str"
  | .list _ => "list"
  | .tuple _ => "tuple"
  | .dict _ => "dict"
theorem Da.ty {K : PySem.W.Frag} {H : Hp} {v : V} {d : PyData} (h : Da H v d) : TyX K H v (.type (kd d)) := by
  cases h with
  | non => exact .base .non
  | bl b => exact .base (.bl b)
  | int i => exact .base (.int i)
  | str x => exact .base (.str x)
  | lst e _ => exact .base (.lst e)
  | tup e _ => exact .base (.tup e)
  | dic e _ => exact .base (.dK e)
def isT (c : String) (d : PyData) : Bool := kitB (kd d) c == some true
theorem kit_int (d : PyData) : kitB (kd d) "int" = some (match d with | .int _ => true | .bool _ => true | _ => false) := by
  cases d with
  | none => exact (by decide +kernel : kitB "NoneType" "int" = some false)
  | bool b => exact (by decide +kernel : kitB "bool" "int" = some true)
  | int i => exact (by decide +kernel : kitB "int" "int" = some true)
  | str x => exact (by decide +kernel : kitB "str" "int" = some false)
  | list xs => exact (by decide +kernel : kitB "list" "int" = some false)
  | tuple xs => exact (by decide +kernel : kitB "tuple" "int" = some false)
  | dict ks => exact (by decide +kernel : kitB "dict" "int" = some false)
theorem kit_bool (d : PyData) : kitB (kd d) "bool" = some (match d with | .bool _ => true | _ => false) := by
  cases d with
  | none => exact (by decide +kernel : kitB "NoneType" "bool" = some false)
  | bool b => exact (by decide +kernel : kitB "bool" "bool" = some true)
  | int i => exact (by decide +kernel : kitB "int" "bool" = some false)
  | str x => exact (by decide +kernel : kitB "str" "bool" = some false)
  | list xs => exact (by decide +kernel : kitB "list" "bool" = some false)
  | tuple xs => exact (by decide +kernel : kitB "tuple" "bool" = some false)
  | dict ks => exact (by decide +kernel : kitB "dict" "bool" = some false)
theorem kit_tuple (d : PyData) : kitB (kd d) "tuple" = some (match d with | .tuple _ => true | _ => false) := by
  cases d with
  | none => exact (by decide +kernel : kitB "NoneType" "tuple" = some false)
  | bool b => exact (by decide +kernel : kitB "bool" "tuple" = some false)
  | int i => exact (by decide +kernel : kitB "int" "tuple" = some false)
  | str x => exact (by decide +kernel : kitB "str" "tuple" = some false)
  | list xs => exact (by decide +kernel : kitB "list" "tuple" = some false)
  | tuple xs => exact (by decide +kernel : kitB "tuple" "tuple" = some true)
  | dict ks => exact (by decide +kernel : kitB "dict" "tuple" = some false)
theorem kit_list (d : PyData) : kitB (kd d) "list" = some (match d with | .list _ => true | _ => false) := by
  cases d with
  | none => exact (by decide +kernel : kitB "NoneType" "list" = some false)
  | bool b => exact (by decide +kernel : kitB "bool" "list" = some false)
  | int i => exact (by decide +kernel : kitB "int" "list" = some false)
  | str x => exact (by decide +kernel : kitB "str" "list" = some false)
  | list xs => exact (by decide +kernel : kitB "list" "list" = some true)
  | tuple xs => exact (by decide +kernel : kitB "tuple" "list" = some false)
  | dict ks => exact (by decide +kernel : kitB "dict" "list" = some false)
theorem kit_str (d : PyData) : kitB (kd d) "str" = some (match d with | .str _ => true | _ => false) := by
  cases d with
  | none => exact (by decide +kernel : kitB "NoneType" "str" = some false)
  | bool b => exact (by decide +kernel : kitB "bool" "str" = some false)
  | int i => exact (by decide +kernel : kitB "int" "str" = some false)
  | str x => exact (by decide +kernel : kitB "str" "str" = some true)
  | list xs => exact (by decide +kernel : kitB "list" "str" = some false)
  | tuple xs => exact (by decide +kernel : kitB "tuple" "str" = some false)
  | dict ks => exact (by decide +kernel : kitB "dict" "str" = some false)
theorem isi_da {K : PySem.W.Frag} {H : Hp} {v : V} {d : PyData} {c : String} {b : Bool} {Q : VK} (h : Da H v d) (e : kitB (kd d) c = some b) (q : Q (.bl b) H) : rIsi K [v, .ty c] H Q :=
  ⟨v, .ty c, .type (kd d), .type c, b, rfl, .ty c, h.ty, kit_ty e, q⟩
end Gd
set_option Elab.async false
set_option linter.all false
set_option maxRecDepth 100000
set_option maxHeartbeats 4000000
set_option autoImplicit false
namespace DC
open PySem L2 Gd
theorem ifp {b : Prop} [Decidable b] {p q : Prop} (h : b) (x : if b then p else q) : p := by rwa [if_pos h] at x
theorem ifn {b : Prop} [Decidable b] {p q : Prop} (h : ¬ b) (x : if b then p else q) : q := by rwa [if_neg h] at x
section
variable {C : Ctx} {E : XK} {X : XP} {n : Nat} {ρ : Dv} {P : Nat → DVal → Prop} {K : PySem.W.Frag}
theorem e_int {i : Int} (h : P n (.d (.int i))) : EJ C E X n ρ (tC (.int i)) P := fun _ H _ I _ _ k => k _ _ n H (C.refl H) I (.int i) h
theorem e_bl {b : Bool} (h : P n (.d (.bool b))) : EJ C E X n ρ (tC (.bl b)) P := fun _ H _ I _ _ k => k _ _ n H (C.refl H) I (.bl b) h
theorem e_str {x : Str} (h : P n (.d (.str x))) : EJ C E X n ρ (tC (.str x)) P := fun _ H _ I _ _ k => k _ _ n H (C.refl H) I (.str x) h
theorem e_non (h : P n (.d .none)) : EJ C E X n ρ (tC .non) P := fun _ H _ I _ _ k => k _ _ n H (C.refl H) I .non h
theorem e_var {i : Nat} {x : DVal} (hx : ρ[i]? = some (some x)) (h : P n x) : EJ C E X n ρ (tVar i) P := fun _ H _ I e _ k => by
  obtain ⟨v, h1, h2⟩ := e.get i x hx
  exact ⟨v, h1, k v x n H (C.refl H) I h2 h⟩
theorem EJ.go {t : TE} {σ : St} {H : Hp} {Q : VK} (h : EJ C E X n ρ t P) (I : C.inv n H) (e : En C H σ ρ) (x : XOk C H E X) (k : ∀ v x n' H', C.R H H' → C.inv n' H' → Rep C H' v x → P n' x → Q v H') : t σ H Q := h σ H Q I e x k
theorem EJ.imp {t : TE} {P' : Nat → DVal → Prop} (h : EJ C E X n ρ t P) (q : ∀ n x, P n x → P' n x) : EJ C E X n ρ t P' := fun σ H Q I e x k => h σ H Q I e x fun v y n' H' g i r p => k v y n' H' g i r (q _ _ p)
theorem a_nil {P : Nat → List DVal → Prop} (h : P n []) : AJ C E X n ρ tNil P := fun _ H _ I _ _ k => k [] [] n H (C.refl H) I trivial h
theorem a_cons {t : TE} {ts : TA} {P : Nat → List DVal → Prop} (h : EJ C E X n ρ t fun n1 x => AJ C E X n1 ρ ts fun n2 xs => P n2 (x :: xs)) : AJ C E X n ρ (tCons t ts) P := fun σ H Q I e x k =>
  h σ H _ I e x fun v y n1 H1 g1 i1 r1 p => p σ H1 _ i1 (e.up g1) (x.up g1) fun vs ys n2 H2 g2 i2 r2 q => k (v :: vs) (y :: ys) n2 H2 (C.trans g1 g2) i2 ⟨r1.up g2, r2⟩ q
@[simp] def unD : List DVal → Option (List PyData)
  | [] => some []
  | .d x :: r => match unD r with
    | some ds => some (x :: ds)
    | none => none
  | .h _ :: _ => none
  | .o _ :: _ => none
theorem unD_da {H : Hp} : ∀ {vs : List V} {xs : List DVal} {ds : List PyData}, unD xs = some ds → RepL C H vs xs → DaL (C.vw H) vs ds
  | [], [], ds, h, _ => by cases h; exact .nil
  | v :: vs, .d x :: xs, ds, h, r => by
    unfold unD at h
    split at h
    · next es e => cases h; exact .cons r.1 (unD_da e r.2)
    · cases h
  | v :: vs, .h _ :: xs, ds, h, r => by cases h
  | v :: vs, .o _ :: xs, ds, h, r => by cases h
  | [], _ :: _, _, _, r => r.elim
  | _ :: _, [], _, _, r => r.elim
theorem slz {k : Nat} (h : k ≤ 5000) : k ≤ sizeLine := Nat.le_trans h (by rw [sizeLine_eq]; decide)
theorem e_tup {ta : TA} (h : AJ C E X n ρ ta fun n1 xs => ∃ ds, unD xs = some ds ∧ ds.length ≤ 5000 ∧ P n1 (.d (.tuple ds))) : EJ C E X n ρ (tTup ta) P := fun σ H Q I e x k =>
  h σ H _ I e x fun vs xs n1 H1 g1 i1 r1 ⟨ds, hd, hl, p⟩ => by
    have hv := unD_da hd r1
    refine ⟨slz (hv.length ▸ hl), fun q hq => ?_⟩
    obtain ⟨a, b, c⟩ := C.new (.tup vs) i1 hq
    exact k _ _ n1 _ (C.trans g1 a) b (.tup c (hv.mono (C.vwm a))) p
theorem e_lst {ta : TA} (h : AJ C E X n ρ ta fun n1 xs => ∃ ds, unD xs = some ds ∧ ds.length ≤ 5000 ∧ P n1 (.d (.list ds))) : EJ C E X n ρ (tLst ta) P := fun σ H Q I e x k =>
  h σ H _ I e x fun vs xs n1 H1 g1 i1 r1 ⟨ds, hd, hl, p⟩ => by
    have hv := unD_da hd r1
    refine ⟨slz (hv.length ▸ hl), fun q hq => ?_⟩
    obtain ⟨a, b, c⟩ := C.new (.lst vs) i1 hq
    exact k _ _ n1 _ (C.trans g1 a) b (.lst c (hv.mono (C.vwm a))) p
/-- two operands -/
theorem e_two {r : R2} {ta tb : TE} (h : EJ C E X n ρ ta fun n1 x => EJ C E X n1 ρ tb fun n2 y =>
      ∀ (H2 : Hp) (v u : V) (Q : VK), C.inv n2 H2 → Rep C H2 v x → Rep C H2 u y → (∀ w z H', C.R H2 H' → C.inv n2 H' → Rep C H' w z → P n2 z → Q w H') → r v u H2 Q) : EJ C E X n ρ (tOp r ta tb) P := fun σ H Q I e x k =>
  h σ H _ I e x fun v y n1 H1 g1 i1 r1 p => p σ H1 _ i1 (e.up g1) (x.up g1) fun u z n2 H2 g2 i2 r2 q =>
    q H2 v u Q i2 (r1.up g2) r2 fun w z' H' g' i' r' p' => k w z' n2 H' (C.trans g1 (C.trans g2 g')) i' r' p'
theorem da_int {H : Hp} {v : V} {i : Int} (h : Da H v (.int i)) : v = .int i := by cases h; rfl
theorem da_bool {H : Hp} {v : V} {b : Bool} (h : Da H v (.bool b)) : v = .bl b := by cases h; rfl
theorem da_tuple {H : Hp} {v : V} {ds : List PyData} (h : Da H v (.tuple ds)) : ∃ a xs, v = .ref a ∧ H a = some (.tup xs) ∧ DaL H xs ds := by
  cases h with
  | tup e r => exact ⟨_, _, rfl, e, r⟩
theorem da_list {H : Hp} {v : V} {ds : List PyData} (h : Da H v (.list ds)) : ∃ a xs, v = .ref a ∧ H a = some (.lst xs) ∧ DaL H xs ds := by
  cases h with
  | lst e r => exact ⟨_, _, rfl, e, r⟩
theorem e_op0 {g : Int → Int → Int} {ta tb : TE} (h : EJ C E X n ρ ta fun n1 x => ∃ i, x = .d (.int i) ∧ EJ C E X n1 ρ tb fun n2 y => ∃ j, y = .d (.int j) ∧ P n2 (.d (.int (g i j)))) : EJ C E X n ρ (tOp (rI0 fun i j => .int (g i j)) ta tb) P :=
  e_two (h.imp fun n1 x ⟨i, e, q⟩ => by
    subst e
    refine q.imp fun n2 y ⟨j, e, p⟩ => ?_
    subst e
    intro H2 v u Q I r1 r2 k
    have a := da_int r1
    have b := da_int r2
    subst a b
    exact ⟨i, j, rfl, rfl, k _ _ _ (C.refl _) I (.int _) p⟩)
theorem e_cmp {g : Int → Int → Bool} {ta tb : TE} (h : EJ C E X n ρ ta fun n1 x => ∃ i, x = .d (.int i) ∧ EJ C E X n1 ρ tb fun n2 y => ∃ j, y = .d (.int j) ∧ P n2 (.d (.bool (g i j)))) : EJ C E X n ρ (tOp (rI0 fun i j => .bl (g i j)) ta tb) P :=
  e_two (h.imp fun n1 x ⟨i, e, q⟩ => by
    subst e
    refine q.imp fun n2 y ⟨j, e, p⟩ => ?_
    subst e
    intro H2 v u Q I r1 r2 k
    have a := da_int r1
    have b := da_int r2
    subst a b
    exact ⟨i, j, rfl, rfl, k _ _ _ (C.refl _) I (.bl _) p⟩)
theorem e_opC {c : Int → Int → Prop} {g : Int → Int → Int} {ta tb : TE} (h : EJ C E X n ρ ta fun n1 x => ∃ i, x = .d (.int i) ∧ EJ C E X n1 ρ tb fun n2 y => ∃ j, y = .d (.int j) ∧ c i j ∧ P n2 (.d (.int (g i j)))) : EJ C E X n ρ (tOp (rI c fun i j => .int (g i j)) ta tb) P :=
  e_two (h.imp fun n1 x ⟨i, e, q⟩ => by
    subst e
    refine q.imp fun n2 y ⟨j, e, hc, p⟩ => ?_
    subst e
    intro H2 v u Q I r1 r2 k
    have a := da_int r1
    have b := da_int r2
    subst a b
    exact ⟨i, j, rfl, rfl, hc, k _ _ _ (C.refl _) I (.int _) p⟩)
theorem e_un {g : Int → Int} {ta : TE} (h : EJ C E X n ρ ta fun n1 x => ∃ i, x = .d (.int i) ∧ P n1 (.d (.int (g i)))) : EJ C E X n ρ (tUn (rU fun i => .int (g i)) ta) P := fun σ H Q I e x k =>
  h σ H _ I e x fun v y n1 H1 g1 i1 r1 ⟨i, ey, p⟩ => by
    subst ey
    have a := da_int r1
    subst a
    exact ⟨i, rfl, k _ _ n1 H1 g1 i1 (.int _) p⟩
/-- list + list -/
theorem e_cat {ta tb : TE} (h : EJ C E X n ρ ta fun n1 x => ∃ ds, x = .d (.list ds) ∧ EJ C E X n1 ρ tb fun n2 y => ∃ es, y = .d (.list es) ∧ ds.length + es.length ≤ 5000 ∧ P n2 (.d (.list (ds ++ es)))) : EJ C E X n ρ (tOp rCat ta tb) P :=
  e_two (h.imp fun n1 x ⟨ds, e, q⟩ => by
    subst e
    refine q.imp fun n2 y ⟨es, e, hl, p⟩ => ?_
    subst e
    intro H2 v u Q I r1 r2 k
    obtain ⟨a, xs, rfl, ha, hx⟩ := da_list r1
    obtain ⟨b, ys, rfl, hb, hy⟩ := da_list r2
    refine ⟨a, b, xs, ys, rfl, rfl, C.sub _ _ ha, C.sub _ _ hb, ?_, fun q hq => ?_⟩
    · rw [hx.length, hy.length]; exact slz hl
    · obtain ⟨a', b', c'⟩ := C.new (.lst (xs ++ ys)) I hq
      exact k _ _ _ a' b' (.lst c' ((dal_app hx hy).mono (C.vwm a'))) p)
where dal_app {H : Hp} : ∀ {xs ys : List V} {ds es : List PyData}, DaL H xs ds → DaL H ys es → DaL H (xs ++ ys) (ds ++ es)
  | _, _, _, _, .nil, h => h
  | _, _, _, _, .cons h r, g => .cons h (dal_app r g)
theorem dal_app {H : Hp} : ∀ {xs ys : List V} {ds es : List PyData}, DaL H xs ds → DaL H ys es → DaL H (xs ++ ys) (ds ++ es)
  | _, _, _, _, .nil, h => h
  | _, _, _, _, .cons h r, g => .cons h (dal_app r g)
theorem dal_get {H : Hp} : ∀ {xs : List V} {ds : List PyData} {i : Nat} {d : PyData}, DaL H xs ds → ds[i]? = some d → ∃ v, xs[i]? = some v ∧ Da H v d
  | _, _, 0, d, .cons h _, e => by simp at e; subst e; exact ⟨_, rfl, h⟩
  | _, _, i + 1, d, .cons _ r, e => by
    obtain ⟨v, h1, h2⟩ := dal_get r (i := i) (by simpa using e)
    exact ⟨v, by simpa using h1, h2⟩
theorem atI_dal {H : Hp} {xs : List V} {ds : List PyData} {i : Int} {d : PyData} (h : DaL H xs ds) (e : atI ds i = some d) : ∃ v, atI xs i = some v ∧ Da H v d := by
  unfold atI at e ⊢
  rw [h.length]
  cases q : ixN ds.length i with
  | none => rw [q] at e; cases e
  | some j =>
    rw [q] at e
    exact dal_get h e
theorem e_ixT {ta tb : TE} (h : EJ C E X n ρ ta fun n1 x => ∃ ds, x = .d (.tuple ds) ∧ EJ C E X n1 ρ tb fun n2 y => ∃ (i : Int) (d : PyData), y = .d (.int i) ∧ atI ds i = some d ∧ P n2 (.d d)) : EJ C E X n ρ (tOp (rIxT K) ta tb) P :=
  e_two (h.imp fun n1 x ⟨ds, e, q⟩ => by
    subst e
    refine q.imp fun n2 y ⟨i, d, e, hd, p⟩ => ?_
    subst e
    intro H2 v u Q I r1 r2 k
    obtain ⟨a, xs, rfl, ha, hx⟩ := da_tuple r1
    have b := da_int r2
    subst b
    obtain ⟨w, h1, h2⟩ := atI_dal hx hd
    exact ⟨a, xs, i, w, rfl, rfl, SqT.of (C.sub _ _ ha), h1, k w (.d d) _ (C.refl _) I h2 p⟩)
theorem e_ixL {ta tb : TE} (h : EJ C E X n ρ ta fun n1 x => ∃ ds, x = .d (.list ds) ∧ EJ C E X n1 ρ tb fun n2 y => ∃ (i : Int) (d : PyData), y = .d (.int i) ∧ atI ds i = some d ∧ P n2 (.d d)) : EJ C E X n ρ (tOp (rIxL K) ta tb) P :=
  e_two (h.imp fun n1 x ⟨ds, e, q⟩ => by
    subst e
    refine q.imp fun n2 y ⟨i, d, e, hd, p⟩ => ?_
    subst e
    intro H2 v u Q I r1 r2 k
    obtain ⟨a, xs, rfl, ha, hx⟩ := da_list r1
    have b := da_int r2
    subst b
    obtain ⟨w, h1, h2⟩ := atI_dal hx hd
    exact ⟨a, xs, i, w, rfl, rfl, SqL.of (C.sub _ _ ha), h1, k w (.d d) _ (C.refl _) I h2 p⟩)
/-! ### tests -/
theorem t_test {t : TE} {P : Nat → Bool → Prop} (h : EJ C E X n ρ t fun n1 x => ∃ b, x = .d (.bool b) ∧ P n1 b) : TJ C E X n ρ (tTest t) P := fun σ H Q I e x k =>
  h σ H _ I e x fun v y n1 H1 g1 i1 r1 ⟨b, ey, p⟩ => by
    subst ey
    exact ⟨b, da_bool r1, k b n1 H1 g1 i1 p⟩
theorem t_B {t : TE} {P : Nat → Bool → Prop} (h : EJ C E X n ρ t fun n1 x => ∃ b, x = .d (.bool b) ∧ P n1 b) : TJ C E X n ρ (tB t) P := fun σ H Q I e x k =>
  h σ H _ I e x fun v y n1 H1 g1 i1 r1 ⟨b, ey, p⟩ => by
    subst ey
    exact ⟨b, da_bool r1, k b n1 H1 g1 i1 p⟩
theorem TJ.imp {t : TT} {P P' : Nat → Bool → Prop} (h : TJ C E X n ρ t P) (q : ∀ n x, P n x → P' n x) : TJ C E X n ρ t P' := fun σ H Q I e x k => h σ H Q I e x fun v n' H' g i p => k v n' H' g i (q _ _ p)
theorem t_yes {P : Nat → Bool → Prop} (h : P n true) : TJ C E X n ρ tYes P := fun _ H _ I _ _ k => k true n H (C.refl H) I h
theorem t_not {t : TT} {P : Nat → Bool → Prop} (h : TJ C E X n ρ t fun n1 b => P n1 (!b)) : TJ C E X n ρ (tNot t) P := fun σ H Q I e x k => h σ H _ I e x fun b n1 H1 g i p => k (!b) n1 H1 g i p
theorem t_and {t u : TT} {P : Nat → Bool → Prop} (h : TJ C E X n ρ t fun n1 b => if b = true then TJ C E X n1 ρ u P else P n1 false) : TJ C E X n ρ (tAnd t u) P := fun σ H Q I e x k =>
  h σ H _ I e x fun b n1 H1 g i p => by
    by_cases hb : b = true
    · replace p := ifp hb p
      rw [if_pos hb]
      exact p σ H1 Q i (e.up g) (x.up g) fun b2 n2 H2 g2 i2 p2 => k b2 n2 H2 (C.trans g g2) i2 p2
    · replace p := ifn hb p
      rw [if_neg hb]
      exact k false n1 H1 g i p
theorem t_or {t u : TT} {P : Nat → Bool → Prop} (h : TJ C E X n ρ t fun n1 b => if b = true then P n1 true else TJ C E X n1 ρ u P) : TJ C E X n ρ (tOr t u) P := fun σ H Q I e x k =>
  h σ H _ I e x fun b n1 H1 g i p => by
    by_cases hb : b = true
    · replace p := ifp hb p
      rw [if_pos hb]
      exact k true n1 H1 g i p
    · replace p := ifn hb p
      rw [if_neg hb]
      exact p σ H1 Q i (e.up g) (x.up g) fun b2 n2 H2 g2 i2 p2 => k b2 n2 H2 (C.trans g g2) i2 p2
theorem e_andV {t u : TE} (h : EJ C E X n ρ t fun n1 y => ∃ b, y = .d (.bool b) ∧ if b = true then EJ C E X n1 ρ u P else P n1 (.d (.bool false))) : EJ C E X n ρ (tAndV t u) P := fun σ H Q I e x k =>
  h σ H _ I e x fun v y n1 H1 g i r ⟨b, ey, p⟩ => by
    subst ey
    refine ⟨b, da_bool r, ?_⟩
    by_cases hb : b = true
    · replace p := ifp hb p
      rw [if_pos hb]
      exact p σ H1 Q i (e.up g) (x.up g) fun b2 y2 n2 H2 g2 i2 r2 p2 => k b2 y2 n2 H2 (C.trans g g2) i2 r2 p2
    · replace p := ifn hb p
      rw [if_neg hb]
      exact k _ _ n1 H1 g i (.bl false) p
theorem e_orV {t u : TE} (h : EJ C E X n ρ t fun n1 y => ∃ b, y = .d (.bool b) ∧ if b = true then P n1 (.d (.bool true)) else EJ C E X n1 ρ u P) : EJ C E X n ρ (tOrV t u) P := fun σ H Q I e x k =>
  h σ H _ I e x fun v y n1 H1 g i r ⟨b, ey, p⟩ => by
    subst ey
    refine ⟨b, da_bool r, ?_⟩
    by_cases hb : b = true
    · replace p := ifp hb p
      rw [if_pos hb]
      exact k _ _ n1 H1 g i (.bl true) p
    · replace p := ifn hb p
      rw [if_neg hb]
      exact p σ H1 Q i (e.up g) (x.up g) fun b2 y2 n2 H2 g2 i2 r2 p2 => k b2 y2 n2 H2 (C.trans g g2) i2 r2 p2
theorem e_notV {t : TE} (h : EJ C E X n ρ t fun n1 y => ∃ b, y = .d (.bool b) ∧ P n1 (.d (.bool (!b)))) : EJ C E X n ρ (tNotV t) P := fun σ H Q I e x k =>
  h σ H _ I e x fun v y n1 H1 g i r ⟨b, ey, p⟩ => by
    subst ey
    exact ⟨b, da_bool r, k _ _ n1 H1 g i (.bl _) p⟩
theorem e_if {c : TT} {t u : TE} (h : TJ C E X n ρ c fun n1 b => if b = true then EJ C E X n1 ρ t P else EJ C E X n1 ρ u P) : EJ C E X n ρ (tIf c t u) P := fun σ H Q I e x k =>
  h σ H _ I e x fun b n1 H1 g i p => by
    by_cases hb : b = true
    · replace p := ifp hb p
      rw [if_pos hb]
      exact p σ H1 Q i (e.up g) (x.up g) fun b2 y2 n2 H2 g2 i2 r2 p2 => k b2 y2 n2 H2 (C.trans g g2) i2 r2 p2
    · replace p := ifn hb p
      rw [if_neg hb]
      exact p σ H1 Q i (e.up g) (x.up g) fun b2 y2 n2 H2 g2 i2 r2 p2 => k b2 y2 n2 H2 (C.trans g g2) i2 r2 p2
/-- i < j < k -/
theorem e_chain {g g' : Int → Int → Bool} {ta tb tc : TE} (h : EJ C E X n ρ ta fun n1 x => ∃ i, x = .d (.int i) ∧ EJ C E X n1 ρ tb fun n2 y => ∃ j, y = .d (.int j) ∧
      if g i j = true then EJ C E X n2 ρ tc fun n3 z => ∃ l, z = .d (.int l) ∧ P n3 (.d (.bool (g' j l))) else P n2 (.d (.bool false))) :
    EJ C E X n ρ (tChain (rI0 fun i j => .bl (g i j)) (rI0 fun i j => .bl (g' i j)) ta tb tc) P := fun σ H Q I e x k =>
  h σ H _ I e x fun v y n1 H1 g1 i1 r1 ⟨i, ey, p⟩ => by
    subst ey
    have a := da_int r1
    subst a
    refine p σ H1 _ i1 (e.up g1) (x.up g1) fun u z n2 H2 g2 i2 r2 ⟨j, ez, p⟩ => ?_
    subst ez
    have a := da_int r2
    subst a
    refine ⟨i, j, rfl, rfl, _, rfl, ?_⟩
    by_cases hb : g i j = true
    · replace p := ifp hb p
      rw [if_pos hb]
      refine p σ H2 _ i2 ((e.up g1).up g2) ((x.up g1).up g2) fun w z n3 H3 g3 i3 r3 ⟨l, ez, p⟩ => ?_
      subst ez
      have a := da_int r3
      subst a
      exact ⟨j, l, rfl, rfl, k _ _ n3 H3 (C.trans g1 (C.trans g2 g3)) i3 (.bl _) p⟩
    · replace p := ifn hb p
      rw [if_neg hb]
      exact k _ _ n2 H2 (C.trans g1 g2) i2 (.bl _) p
/-! ### calls -/
def noX : XP := fun _ _ _ _ => False
theorem e_call {s : SpD} {E' : XK} {ta : TA} (h : AJ C E X n ρ ta fun n1 xs => s C n1 xs P noX) : EJ C E X n ρ (tCall (spG s) [] E' ta) P := fun σ H Q I e x k =>
  h σ H _ I e x fun vs xs n1 H1 g1 i1 r1 p => ⟨C, n1, xs, P, noX, i1, by rw [List.append_nil]; exact r1, p, fun v y n2 H2 g2 i2 r2 p2 => k v y n2 H2 (C.trans g1 g2) i2 r2 p2, fun _ _ _ _ _ _ _ _ _ _ _ z => z.elim⟩
theorem e_callS {s : SpD} {ta : TA} (h : AJ C E X n ρ ta fun n1 xs => s C n1 xs P X) : EJ C E X n ρ (tCallS (spG s) (WE fun cls d _ H => E cls d H) ta) P := fun σ H Q I e x k =>
  h σ H _ I e x fun vs xs n1 H1 g1 i1 r1 p => ⟨C, n1, xs, P, X, i1, r1, p, fun v y n2 H2 g2 i2 r2 p2 => k v y n2 H2 (C.trans g1 g2) i2 r2 p2, x.up g1⟩
/-- a builtin -/
theorem e_cb {r : List V → Hp → VK → Prop} {ta : TA} (h : AJ C E X n ρ ta fun n1 xs =>
      ∀ (H1 : Hp) (vs : List V) (Q : VK), C.inv n1 H1 → RepL C H1 vs xs → (∀ w z H', C.R H1 H' → C.inv n1 H' → Rep C H' w z → P n1 z → Q w H') → r vs H1 Q) : EJ C E X n ρ (tCB r ta) P := fun σ H Q I e x k =>
  h σ H _ I e x fun vs xs n1 H1 g1 i1 r1 p => p H1 vs Q i1 r1 fun w z H' g' i' r' p' => k w z n1 H' (C.trans g1 g') i' r' p'
theorem AJ.imp {t : TA} {P P' : Nat → List DVal → Prop} (h : AJ C E X n ρ t P) (q : ∀ n x, P n x → P' n x) : AJ C E X n ρ t P' := fun σ H Q I e x k => h σ H Q I e x fun v y n' H' g i r p => k v y n' H' g i r (q _ _ p)
theorem repL1 {H : Hp} {vs : List V} {x : DVal} (r : RepL C H vs [x]) : ∃ v, vs = [v] ∧ Rep C H v x := by
  match vs, r with
  | [v], r => exact ⟨v, rfl, r.1⟩
theorem repL2 {H : Hp} {vs : List V} {x y : DVal} (r : RepL C H vs [x, y]) : ∃ v u, vs = [v, u] ∧ Rep C H v x ∧ Rep C H u y := by
  match vs, r with
  | [v, u], r => exact ⟨v, u, rfl, r.1, r.2.1⟩
/-- the items of a list or tuple -/
def seqOf : DVal → Option (List PyData)
  | .d (.list ds) => some ds
  | .d (.tuple ds) => some ds
  | .o (.l ds) => some ds
  | _ => none
theorem seq_rep {H : Hp} {v : V} {x : DVal} {ds : List PyData} (h : seqOf x = some ds) (r : Rep C H v x) : ∃ a xs, v = .ref a ∧ (SqL K H a xs ∨ SqT K H a xs) ∧ DaL (C.vw H) xs ds := by
  match x, h, r with
  | .d (.list es), h, r =>
    cases h
    obtain ⟨a, xs, rfl, ha, hx⟩ := da_list r
    exact ⟨a, xs, rfl, .inl (SqL.of (C.sub _ _ ha)), hx⟩
  | .d (.tuple es), h, r =>
    cases h
    obtain ⟨a, xs, rfl, ha, hx⟩ := da_tuple r
    exact ⟨a, xs, rfl, .inr (SqT.of (C.sub _ _ ha)), hx⟩
  | .o (.l es), h, r =>
    cases h
    obtain ⟨L, _, a, xs, e1, _, ha, hx⟩ := r
    exact ⟨a, xs, e1, .inl (SqL.of ha), hx⟩
theorem e_len {ta : TE} (h : EJ C E X n ρ ta fun n1 x => ∃ ds, seqOf x = some ds ∧ P n1 (.d (.int ds.length))) :
    EJ C E X n ρ (tCB (fun xs H Q => ∃ p ys, xs = [.ref p] ∧ (SqL K H p ys ∨ SqT K H p ys) ∧ Q (.int ys.length) H) (tCons ta tNil)) P :=
  e_cb (a_cons (h.imp fun n1 x ⟨ds, hs, p⟩ => a_nil fun H1 vs Q I r k => by
    obtain ⟨v, rfl, rv⟩ := repL1 r
    obtain ⟨a, xs, rfl, ha, hx⟩ := seq_rep (K := K) hs rv
    refine ⟨a, xs, rfl, ha, ?_⟩
    rw [hx.length]
    exact k _ _ _ (C.refl _) I (.int _) p))
theorem e_listOf {ta : TE} (h : EJ C E X n ρ ta fun n1 x => ∃ ds, seqOf x = some ds ∧ P n1 (.d (.list ds))) :
    EJ C E X n ρ (tCB (fun xs H Q => ∃ p ys, xs = [.ref p] ∧ (SqL K H p ys ∨ SqT K H p ys) ∧ ∀ l, H l = none → Q (.ref l) (upd H l (.lst ys))) (tCons ta tNil)) P :=
  e_cb (a_cons (h.imp fun n1 x ⟨ds, hs, p⟩ => a_nil fun H1 vs Q I r k => by
    obtain ⟨v, rfl, rv⟩ := repL1 r
    obtain ⟨a, xs, rfl, ha, hx⟩ := seq_rep (K := K) hs rv
    refine ⟨a, xs, rfl, ha, fun l hl => ?_⟩
    obtain ⟨a', b', c'⟩ := C.new (.lst xs) I hl
    exact k _ _ _ a' b' (.lst c' (hx.mono (C.vwm a'))) p))
theorem e_tupOf {ta : TE} (h : EJ C E X n ρ ta fun n1 x => ∃ ds, seqOf x = some ds ∧ P n1 (.d (.tuple ds))) :
    EJ C E X n ρ (tCB (fun xs H Q => ∃ p ys, xs = [.ref p] ∧ ((SqL K H p ys ∧ ∀ l, H l = none → Q (.ref l) (upd H l (.tup ys))) ∨ (SqT K H p ys ∧ Q (.ref p) H))) (tCons ta tNil)) P :=
  e_cb (a_cons (h.imp fun n1 x ⟨ds, hs, p⟩ => a_nil fun H1 vs Q I r k => by
    obtain ⟨v, rfl, rv⟩ := repL1 r
    match x, hs, rv with
    | .d (.list es), h, r =>
      cases h
      obtain ⟨a, xs, rfl, ha, hx⟩ := da_list r
      refine ⟨a, xs, rfl, .inl ⟨SqL.of (C.sub _ _ ha), fun l hl => ?_⟩⟩
      obtain ⟨a', b', c'⟩ := C.new (.tup xs) I hl
      exact k _ _ _ a' b' (.tup c' (hx.mono (C.vwm a'))) p
    | .d (.tuple es), h, r =>
      cases h
      obtain ⟨a, xs, rfl, ha, hx⟩ := da_tuple r
      exact ⟨a, xs, rfl, .inr ⟨SqT.of (C.sub _ _ ha), k _ _ _ (C.refl _) I r p⟩⟩
    | .o (.l es), h, r =>
      cases h
      obtain ⟨L, _, a, xs, e1, _, ha, hx⟩ := r
      refine ⟨a, xs, by rw [e1], .inl ⟨SqL.of ha, fun l hl => ?_⟩⟩
      obtain ⟨a', b', c'⟩ := C.new (.tup xs) I hl
      exact k _ _ _ a' b' (.tup c' (hx.mono (C.vwm a'))) p))
theorem e_isi {c : String} {ta : TE} (h : EJ C E X n ρ ta fun n1 x => ∃ d b, x = .d d ∧ kitB (kd d) c = some b ∧ P n1 (.d (.bool b))) :
    EJ C E X n ρ (tCB (rIsi K) (tCons ta (tCons (tC (.ty c)) tNil))) P := fun σ H Q I e x k =>
  h σ H _ I e x fun v y n1 H1 g1 i1 r1 ⟨d, b, ey, hb, p⟩ => by
    subst ey
    exact isi_da (K := K) (Da.mono (C.sub (H := H1)) r1) hb (k _ _ n1 H1 g1 i1 (.bl b) p)
theorem dal_bools {H : Hp} : ∀ {xs : List V} {bs : List Bool}, DaL H xs (bs.map .bool) → xs = bs.map V.bl
  | _, [], .nil => rfl
  | _, b :: bs, .cons h r => by
    rw [da_bool h, dal_bools r]
    rfl
theorem dal_ints {H : Hp} : ∀ {xs : List V} {bs : List Int}, DaL H xs (bs.map .int) → xs = bs.map V.int
  | _, [], .nil => rfl
  | _, b :: bs, .cons h r => by
    rw [da_int h, dal_ints r]
    rfl
theorem e_all {ta : TE} (h : EJ C E X n ρ ta fun n1 x => ∃ bs : List Bool, x = .d (.list (bs.map .bool)) ∧ P n1 (.d (.bool (bs.all id)))) : EJ C E X n ρ (tCB (rAll K) (tCons ta tNil)) P :=
  e_cb (a_cons (h.imp fun n1 x ⟨bs, ex, p⟩ => a_nil fun H1 vs Q I r k => by
    subst ex
    obtain ⟨v, rfl, rv⟩ := repL1 r
    obtain ⟨a, xs, rfl, ha, hx⟩ := da_list rv
    exact ⟨a, bs, rfl, SqL.of (by rw [← dal_bools hx]; exact C.sub _ _ ha), k _ _ _ (C.refl _) I (.bl _) p⟩))
theorem e_any {ta : TE} (h : EJ C E X n ρ ta fun n1 x => ∃ bs : List Bool, x = .d (.list (bs.map .bool)) ∧ P n1 (.d (.bool (bs.any id)))) : EJ C E X n ρ (tCB (rAny K) (tCons ta tNil)) P :=
  e_cb (a_cons (h.imp fun n1 x ⟨bs, ex, p⟩ => a_nil fun H1 vs Q I r k => by
    subst ex
    obtain ⟨v, rfl, rv⟩ := repL1 r
    obtain ⟨a, xs, rfl, ha, hx⟩ := da_list rv
    exact ⟨a, bs, rfl, SqL.of (by rw [← dal_bools hx]; exact C.sub _ _ ha), k _ _ _ (C.refl _) I (.bl _) p⟩))
/-! ### statements -/
variable {p : Post}
theorem s_seq {t u : TS} (h : SJ C E X n ρ t { p with nx := fun n1 ρ1 => SJ C E X n1 ρ1 u p }) : SJ C E X n ρ (tSeq t u) p := fun σ H D I e x k =>
  h σ H { D with nx := u D } I e x ⟨fun σ' ρ' n' H' g i e' q => q σ' H' D i e' (x.up g) (k.up g), k.rt, k.bk, k.ct⟩
theorem s_next (h : p.nx n ρ) : SJ C E X n ρ tNext p := fun σ H D I e x k => k.nx σ ρ n H (C.refl H) I e h
theorem s_ret {t : TE} (h : EJ C E X n ρ t p.rt) : SJ C E X n ρ (tRet t) p := fun σ H D I e x k => h σ H _ I e x fun v y n' H' g i r q => k.rt v y n' H' g i r q
theorem s_retN (h : p.rt n (.d .none)) : SJ C E X n ρ tRetN p := fun σ H D I e x k => k.rt _ _ n H (C.refl H) I .non h
theorem s_brk (h : p.bk n ρ) : SJ C E X n ρ tBreak p := fun σ H D I e x k => k.bk σ ρ n H (C.refl H) I e h
theorem s_cont (h : p.ct n ρ) : SJ C E X n ρ tCont p := fun σ H D I e x k => k.ct σ ρ n H (C.refl H) I e h
theorem s_drop {t : TE} (h : EJ C E X n ρ t fun n1 _ => p.nx n1 ρ) : SJ C E X n ρ (tDrop t) p := fun σ H D I e x k => h σ H _ I e x fun v y n' H' g i r q => k.nx σ ρ n' H' g i (e.up g) q
theorem s_asg {t : TE} {i : Nat} (h : EJ C E X n ρ t fun n1 x => p.nx n1 (ρ.set i (some x))) : SJ C E X n ρ (tAsg t (gName i)) p := fun σ H D I e x k =>
  h σ H _ I e x fun v y n' H' g j r q => k.nx _ _ n' H' g j ((e.up g).set r) q
theorem s_if {c : TT} {t u : TS} (h : TJ C E X n ρ c fun n1 b => if b = true then SJ C E X n1 ρ t p else SJ C E X n1 ρ u p) : SJ C E X n ρ (tIfS c t u) p := fun σ H D I e x k =>
  h σ H _ I e x fun b n1 H1 g i q => by
    by_cases hb : b = true
    · replace q := ifp hb q
      rw [if_pos hb]
      exact q σ H1 D i (e.up g) (x.up g) (k.up g)
    · replace q := ifn hb q
      rw [if_neg hb]
      exact q σ H1 D i (e.up g) (x.up g) (k.up g)
theorem s_par {i j : Nat} {ta : TA} (h : AJ C E X n ρ ta fun n1 xs => ∃ x y, xs = [x, y] ∧ p.nx n1 ((ρ.set i (some x)).set j (some y))) : SJ C E X n ρ (tPar i j ta) p := fun σ H D I e x k =>
  h σ H _ I e x fun vs xs n1 H1 g i1 r ⟨a, b, ex, q⟩ => by
    subst ex
    obtain ⟨v, u, rfl, r1, r2⟩ := repL2 r
    exact ⟨v, u, rfl, k.nx _ _ n1 H1 g i1 (((e.up g).set r1).set r2) q⟩
/-- a, b = t, a tuple of two -/
theorem s_two {t : TE} {i j k : Nat} (hk : k = 2) (h : EJ C E X n ρ t fun n1 x => ∃ a b, x = .d (.tuple [a, b]) ∧ p.nx n1 ((ρ.set i (some (.d a))).set j (some (.d b)))) : SJ C E X n ρ (tAsg t (gTup K k (gCons (gName i) (gCons (gName j) gNil)))) p := fun σ H D I e x k' =>
  h σ H _ I e x fun v y n1 H1 g i1 r ⟨a, b, ex, q⟩ => by
    subst ex
    obtain ⟨c, xs, rfl, hc, hx⟩ := da_tuple r
    cases hx with
    | cons ha hx =>
      cases hx with
      | cons hb hx =>
        cases hx
        exact ⟨c, _, rfl, SqT.of (C.sub _ _ hc), hk.symm, _, _, rfl, _, _, rfl, rfl, k'.nx _ _ n1 H1 g i1 (((e.up g).set (x := .d a) ha).set (x := .d b) hb) q⟩
end
end DC
set_option Elab.async false
set_option linter.all false
set_option maxRecDepth 100000
set_option maxHeartbeats 4000000
set_option autoImplicit false
namespace DC
open PySem L2 Gd CpComb RZ
/-- an item that has come: what it tells stands in G or is new -/
def ItemOk (G H2 H3 : Hp) (v : V) (x : PyData) : Prop := Same H2 H3 ∧ ∃ G3 : Hp, (∀ b o, G3 b = some o → G b = some o ∨ (H2 b = none ∧ H3 b = some o ∧ ∀ ps, o ≠ HO.tbl ps)) ∧ Da G3 v x
def Iter (J : It) (G : Hp) (xs : List PyData) : Prop := ∀ H2 : Hp, (∀ b o, G b = some o → H2 b = some o) → (∀ i, i < xs.length → J.go i H2) ∧ J.stop xs.length H2 ∧
  ∀ (i : Nat) (x : PyData) (v : V) (H3 : Hp), xs[i]? = some x → J.yld i H2 v H3 → ItemOk G H2 H3 v x
theorem itemOk_at {G H2 : Hp} {v : V} {x : PyData} (h : Da G v x) : ItemOk G H2 H2 v x := ⟨Same.refl _, G, fun _ _ e => .inl e, h⟩
theorem itemOk_tup {G H2 : Hp} {T : Addr} {ws : List V} {ds : List PyData} (k : ∀ b o, G b = some o → H2 b = some o) (hT : H2 T = none) (h : DaL G ws ds) : ItemOk G H2 (upd H2 T (.tup ws)) (.ref T) (.tuple ds) := by
  have hG : G T = none := by
    cases q : G T with
    | none => rfl
    | some o => rw [k _ _ q] at hT; cases hT
  refine ⟨fun b u e => by rw [upd_ne (ne_of_none e hT)]; exact e, upd G T (.tup ws), fun b o e => ?_, .tup upd_same (h.mono fun b o e => by rw [upd_ne (ne_of_none e hG)]; exact e)⟩
  by_cases hb : b = T
  · rw [hb, upd_same] at e
    cases e
    rw [hb]
    exact .inr ⟨hT, upd_same, by intro _ z; cases z⟩
  · rw [upd_ne hb] at e
    exact .inl e
section
variable {C : Ctx} {E : XK} {X : XP} {n : Nat} {ρ : Dv} {K : PySem.W.Frag}
theorem item_in {H2 H3 : Hp} {G : Hp} {v : V} {x : PyData} (h : ItemOk G H2 H3 v x) (I : C.inv n H2) (k : ∀ b o, G b = some o → C.vw H2 b = some o) : C.R H2 H3 ∧ C.inv n H3 ∧ Rep C H3 v (.d x) := by
  obtain ⟨s, G3, h3, hd⟩ := h
  obtain ⟨a, b⟩ := C.same I s
  refine ⟨a, b, Da.mono (fun c o e => ?_) hd⟩
  rcases h3 c o e with q | ⟨q1, q2, q3⟩
  · exact C.vwm a _ _ (k _ _ q)
  · exact C.fresh I s q1 q2 q3
def IJ (C : Ctx) (E : XK) (X : XP) (n : Nat) (ρ : Dv) (wi : TI) (P : Nat → List PyData → Prop) : Prop := ∀ (σ : St) (H : Hp) (R' : It → Hp → Prop), C.inv n H → En C H σ ρ → XOk C H E X →
  (∀ (J : It) (n' : Nat) (H' : Hp) (xs : List PyData), C.R H H' → C.inv n' H' → P n' xs → Iter J (C.vw H') xs → R' J H') → wi σ H R'
theorem dal_at {H : Hp} : ∀ {xs : List V} {ds : List PyData} {i : Nat} {d : PyData} {v : V}, DaL H xs ds → ds[i]? = some d → xs[i]? = some v → Da H v d
  | _, _, 0, d, v, .cons h _, e, e2 => by simp at e e2; subst e e2; exact h
  | _, _, i + 1, d, v, .cons _ r, e, e2 => dal_at r (i := i) (by simpa using e) (by simpa using e2)
  | _, _, i, _, _, .nil, e, _ => by simp at e
theorem iter_list {G : Hp} {a : Addr} {xs : List V} {ds : List PyData} (h : G a = some (.lst xs)) (r : DaL G xs ds) : Iter (Itl K a) G ds := fun H2 k =>
  ⟨fun i hi => by
    obtain ⟨v, hv, _⟩ := dal_get r (List.getElem?_eq_getElem hi)
    exact ⟨xs, v, SqL.of (k _ _ h), hv⟩, ⟨xs, SqL.of (k _ _ h), Nat.le_of_eq r.length⟩, fun i x v H3 hx hy => by
    obtain ⟨rfl, hy⟩ := hy
    exact itemOk_at (dal_at r hx (hy xs (SqL.of (k _ _ h))))⟩
theorem iter_tup {G : Hp} {a : Addr} {xs : List V} {ds : List PyData} (h : G a = some (.tup xs)) (r : DaL G xs ds) : Iter (Itt K a) G ds := fun H2 k =>
  ⟨fun i hi => by
    obtain ⟨v, hv, _⟩ := dal_get r (List.getElem?_eq_getElem hi)
    exact ⟨xs, v, SqT.of (k _ _ h), hv⟩, ⟨xs, SqT.of (k _ _ h), Nat.le_of_eq r.length⟩, fun i x v H3 hx hy => by
    obtain ⟨rfl, hy⟩ := hy
    exact itemOk_at (dal_at r hx (hy xs (SqT.of (k _ _ h))))⟩
/-- lo, lo + 1, .. -/
def rgD (lo : Int) (k : Nat) : List PyData := (List.range k).map fun i => .int (lo + (i : Nat))
theorem iter_rng {G : Hp} {lo : Int} {k : Nat} : Iter (Itr lo k) G (rgD lo k) := fun H2 q => by
  have hl : (rgD lo k).length = k := by simp [rgD]
  refine ⟨fun i hi => by rw [hl] at hi; exact hi, by rw [hl]; exact Nat.le_refl _, fun i x v H3 hx hy => ?_⟩
  obtain ⟨rfl, rfl⟩ := hy
  have : x = .int (lo + (i : Nat)) := by
    unfold rgD at hx
    rw [List.getElem?_map] at hx
    cases e : (List.range k)[i]? with
    | none => rw [e] at hx; cases hx
    | some j =>
      rw [e] at hx
      have : j = i := by
        have := List.getElem?_eq_some_iff.mp e
        obtain ⟨h1, h2⟩ := this
        simpa using h2.symm
      subst this
      cases hx
      rfl
  subst this
  exact itemOk_at (.int _)
/-- (0, x), (1, y), .. -/
def enD (ds : List PyData) : List PyData := ds.zipIdx.map fun p => .tuple [.int (p.2 : Nat), p.1]
theorem enD_len (ds : List PyData) : (enD ds).length = ds.length := by simp [enD]
theorem enD_get {ds : List PyData} {i : Nat} {x : PyData} (h : (enD ds)[i]? = some x) : ∃ d, ds[i]? = some d ∧ x = .tuple [.int (i : Nat), d] := by
  unfold enD at h
  rw [List.getElem?_map, List.getElem?_zipIdx] at h
  cases e : ds[i]? with
  | none => rw [e] at h; cases h
  | some d => rw [e] at h; simp at h; exact ⟨d, rfl, h.symm⟩
theorem iter_enT {G : Hp} {a : Addr} {xs : List V} {ds : List PyData} (h : G a = some (.tup xs)) (r : DaL G xs ds) : Iter (ItE K a) G (enD ds) := fun H2 k => by
  refine ⟨fun i hi => ?_, ⟨xs, SqT.of (k _ _ h), by rw [enD_len]; exact r.length⟩, fun i x v H3 hx hy => ?_⟩
  · rw [enD_len] at hi
    obtain ⟨v, hv, _⟩ := dal_get r (List.getElem?_eq_getElem hi)
    exact ⟨xs, v, SqT.of (k _ _ h), hv⟩
  · obtain ⟨T, y, rfl, hT, rfl, hy⟩ := hy
    obtain ⟨d, hd, rfl⟩ := enD_get hx
    exact itemOk_tup k hT (.cons (.int _) (.cons (dal_at r hd (hy xs (SqT.of (k _ _ h)))) .nil))
theorem iter_enL {G : Hp} {a : Addr} {xs : List V} {ds : List PyData} (h : G a = some (.lst xs)) (r : DaL G xs ds) : Iter (Ite K a) G (enD ds) := fun H2 k => by
  refine ⟨fun i hi => ?_, ⟨xs, SqL.of (k _ _ h), by rw [enD_len]; exact Nat.le_of_eq r.length⟩, fun i x v H3 hx hy => ?_⟩
  · rw [enD_len] at hi
    obtain ⟨v, hv, _⟩ := dal_get r (List.getElem?_eq_getElem hi)
    exact ⟨xs, v, SqL.of (k _ _ h), hv⟩
  · obtain ⟨T, y, rfl, hT, rfl, hy⟩ := hy
    obtain ⟨d, hd, rfl⟩ := enD_get hx
    exact itemOk_tup k hT (.cons (.int _) (.cons (dal_at r hd (hy xs (SqL.of (k _ _ h)))) .nil))
/-- pairs -/
def zipD (ds es : List PyData) : List PyData := (ds.zip es).map fun p => .tuple [p.1, p.2]
theorem zipD_get {ds es : List PyData} {i : Nat} {x : PyData} (h : (zipD ds es)[i]? = some x) : ∃ d e, ds[i]? = some d ∧ es[i]? = some e ∧ x = .tuple [d, e] := by
  unfold zipD at h
  rw [List.getElem?_map] at h
  cases q : (ds.zip es)[i]? with
  | none => rw [q] at h; cases h
  | some p =>
    rw [q] at h
    obtain ⟨a, b⟩ := List.getElem?_zip_eq_some.mp q
    cases h
    exact ⟨_, _, a, b, rfl⟩
theorem iter_zipT {G : Hp} {a b : Addr} {xs ys : List V} {ds es : List PyData} (h : G a = some (.tup xs)) (r : DaL G xs ds) (h2 : G b = some (.tup ys)) (r2 : DaL G ys es) : Iter (ItzT K a b) G (zipD ds es) := fun H2 k => by
  have hl : (zipD ds es).length = min ds.length es.length := by simp [zipD]
  refine ⟨fun i hi => ?_, ⟨xs, ys, SqT.of (k _ _ h), SqT.of (k _ _ h2), ?_⟩, fun i x v H3 hx hy => ?_⟩
  · rw [hl] at hi
    obtain ⟨v, hv, _⟩ := dal_get r (List.getElem?_eq_getElem (show i < ds.length by omega))
    obtain ⟨u, hu, _⟩ := dal_get r2 (List.getElem?_eq_getElem (show i < es.length by omega))
    exact ⟨xs, ys, v, u, SqT.of (k _ _ h), SqT.of (k _ _ h2), hv, hu⟩
  · rw [hl, r.length, r2.length]; omega
  · obtain ⟨T, y, z, rfl, hT, rfl, hy, hz⟩ := hy
    obtain ⟨d, e, hd, he, rfl⟩ := zipD_get hx
    exact itemOk_tup k hT (.cons (dal_at r hd (hy xs (SqT.of (k _ _ h)))) (.cons (dal_at r2 he (hz ys (SqT.of (k _ _ h2)))) .nil))
theorem iter_zipL {G : Hp} {a b : Addr} {xs ys : List V} {ds es : List PyData} (h : G a = some (.lst xs)) (r : DaL G xs ds) (h2 : G b = some (.lst ys)) (r2 : DaL G ys es) : Iter (Itz K a b) G (zipD ds es) := fun H2 k => by
  have hl : (zipD ds es).length = min ds.length es.length := by simp [zipD]
  refine ⟨fun i hi => ?_, ⟨xs, ys, SqL.of (k _ _ h), SqL.of (k _ _ h2), ?_⟩, fun i x v H3 hx hy => ?_⟩
  · rw [hl] at hi
    obtain ⟨v, hv, _⟩ := dal_get r (List.getElem?_eq_getElem (show i < ds.length by omega))
    obtain ⟨u, hu, _⟩ := dal_get r2 (List.getElem?_eq_getElem (show i < es.length by omega))
    exact ⟨xs, ys, v, u, SqL.of (k _ _ h), SqL.of (k _ _ h2), hv, hu⟩
  · rw [hl, r.length, r2.length]; omega
  · obtain ⟨T, y, z, rfl, hT, rfl, hy, hz⟩ := hy
    obtain ⟨d, e, hd, he, rfl⟩ := zipD_get hx
    exact itemOk_tup k hT (.cons (dal_at r hd (hy xs (SqL.of (k _ _ h)))) (.cons (dal_at r2 he (hz ys (SqL.of (k _ _ h2)))) .nil))
def combD (n r : Nat) : List PyData := (combL n r).map fun ix => .tuple (ix.map fun j => .int (j : Nat))
theorem da_nats {G : Hp} : ∀ ix : List Nat, DaL G (ix.map fun j => V.int (j : Nat)) (ix.map fun j => .int (j : Nat))
  | [] => .nil
  | j :: r => .cons (.int _) (da_nats r)
theorem iter_comb {G : Hp} {n r : Nat} (h : combB n r = true) : Iter (ItC n r) G (combD n r) := fun H2 k => by
  have hl : (combD n r).length = (combL n r).length := by simp [combD]
  refine ⟨fun i hi => ?_, ?_, fun i x v H3 hx hy => ?_⟩
  · show (itn n r i).isSome = true
    rw [combL_get h, List.getElem?_eq_getElem (by omega)]
    rfl
  · show itn n r _ = none
    rw [combL_get h, List.getElem?_eq_none (by omega)]
  · obtain ⟨T, ix, hi, rfl, hT, rfl⟩ := hy
    rw [combL_get h] at hi
    have : x = .tuple (ix.map fun j => .int (j : Nat)) := by
      unfold combD at hx
      rw [List.getElem?_map, hi] at hx
      cases hx
      rfl
    subst this
    exact itemOk_tup k hT (da_nats ix)
theorem i_list {tl : TE} {P : Nat → List PyData → Prop} (h : EJ C E X n ρ tl fun n1 x => ∃ ds, x = .d (.list ds) ∧ P n1 ds) : IJ C E X n ρ (iList K tl) P := fun σ H R' I e x k =>
  h σ H _ I e x fun v y n1 H1 g i r ⟨ds, ey, p⟩ => by
    subst ey
    obtain ⟨a, xs, rfl, ha, hx⟩ := da_list r
    exact ⟨a, rfl, ⟨xs, SqL.of (C.sub _ _ ha)⟩, k _ n1 H1 ds g i p (iter_list ha hx)⟩
theorem i_tup {tl : TE} {P : Nat → List PyData → Prop} (h : EJ C E X n ρ tl fun n1 x => ∃ ds, x = .d (.tuple ds) ∧ P n1 ds) : IJ C E X n ρ (iTup K tl) P := fun σ H R' I e x k =>
  h σ H _ I e x fun v y n1 H1 g i r ⟨ds, ey, p⟩ => by
    subst ey
    obtain ⟨a, xs, rfl, ha, hx⟩ := da_tuple r
    exact ⟨a, rfl, ⟨xs, SqT.of (C.sub _ _ ha)⟩, k _ n1 H1 ds g i p (iter_tup ha hx)⟩
theorem i_rng1 {t : TE} {P : Nat → List PyData → Prop} (h : EJ C E X n ρ t fun n1 x => ∃ j : Int, x = .d (.int j) ∧ -(2 ^ 62) ≤ j ∧ j < 2 ^ 62 ∧ P n1 (rgD 0 j.toNat)) : IJ C E X n ρ (iRng1 (tCons t tNil)) P := fun σ H R' I e x k =>
  h σ H _ I e x fun v y n1 H1 g i r ⟨j, ey, b1, b2, p⟩ => by
    subst ey
    have a := da_int r
    subst a
    exact ⟨j, rfl, b1, b2, k _ n1 H1 _ g i p iter_rng⟩
theorem i_rng2 {t u : TE} {P : Nat → List PyData → Prop} (h : EJ C E X n ρ t fun n1 x => ∃ i : Int, x = .d (.int i) ∧ EJ C E X n1 ρ u fun n2 y => ∃ j : Int, y = .d (.int j) ∧ (-(2 ^ 62) ≤ i ∧ i < 2 ^ 62 ∧ -(2 ^ 62) ≤ j ∧ j < 2 ^ 62) ∧ P n2 (rgD i (j - i).toNat)) :
    IJ C E X n ρ (iRng2 (tCons t (tCons u tNil))) P := fun σ H R' I e x k =>
  h σ H _ I e x fun v y n1 H1 g1 i1 r1 ⟨i, ey, p⟩ => p σ H1 _ i1 (e.up g1) (x.up g1) fun w z n2 H2 g2 i2 r2 ⟨j, ez, b, p⟩ => by
    subst ey ez
    have a := da_int r1
    have a' := da_int r2
    subst a a'
    exact ⟨i, j, rfl, b, k _ n2 H2 _ (C.trans g1 g2) i2 p iter_rng⟩
theorem i_enT {t : TE} {P : Nat → List PyData → Prop} (h : EJ C E X n ρ t fun n1 x => ∃ ds, x = .d (.tuple ds) ∧ P n1 (enD ds)) : IJ C E X n ρ (iEnT K (tCons t tNil)) P := fun σ H R' I e x k =>
  h σ H _ I e x fun v y n1 H1 g i r ⟨ds, ey, p⟩ => by
    subst ey
    obtain ⟨a, xs, rfl, ha, hx⟩ := da_tuple r
    exact ⟨a, xs, rfl, SqT.of (C.sub _ _ ha), k _ n1 H1 _ g i p (iter_enT ha hx)⟩
theorem i_enL {t : TE} {P : Nat → List PyData → Prop} (h : EJ C E X n ρ t fun n1 x => ∃ ds, x = .d (.list ds) ∧ P n1 (enD ds)) : IJ C E X n ρ (iEnum K (tCons t tNil)) P := fun σ H R' I e x k =>
  h σ H _ I e x fun v y n1 H1 g i r ⟨ds, ey, p⟩ => by
    subst ey
    obtain ⟨a, xs, rfl, ha, hx⟩ := da_list r
    exact ⟨a, xs, rfl, SqL.of (C.sub _ _ ha), k _ n1 H1 _ g i p (iter_enL ha hx)⟩
theorem i_zipTT {t u : TE} {P : Nat → List PyData → Prop} (h : EJ C E X n ρ t fun n1 x => ∃ ds, x = .d (.tuple ds) ∧ EJ C E X n1 ρ u fun n2 y => ∃ es, y = .d (.tuple es) ∧ P n2 (zipD ds es)) : IJ C E X n ρ (iZipA K (tCons t (tCons u tNil))) P := fun σ H R' I e x k =>
  h σ H _ I e x fun v y n1 H1 g1 i1 r1 ⟨ds, ey, p⟩ => p σ H1 _ i1 (e.up g1) (x.up g1) fun w z n2 H2 g2 i2 r2 ⟨es, ez, p⟩ => by
    subst ey ez
    obtain ⟨a, xs, rfl, ha, hx⟩ := da_tuple (Rep.up r1 g2)
    obtain ⟨b, ys, rfl, hb, hy⟩ := da_tuple r2
    exact ⟨a, b, xs, ys, rfl, .inr ⟨SqT.of (C.sub _ _ ha), SqT.of (C.sub _ _ hb), k _ n2 H2 _ (C.trans g1 g2) i2 p (iter_zipT ha hx hb hy)⟩⟩
theorem i_zipLL {t u : TE} {P : Nat → List PyData → Prop} (h : EJ C E X n ρ t fun n1 x => ∃ ds, x = .d (.list ds) ∧ EJ C E X n1 ρ u fun n2 y => ∃ es, y = .d (.list es) ∧ P n2 (zipD ds es)) : IJ C E X n ρ (iZipA K (tCons t (tCons u tNil))) P := fun σ H R' I e x k =>
  h σ H _ I e x fun v y n1 H1 g1 i1 r1 ⟨ds, ey, p⟩ => p σ H1 _ i1 (e.up g1) (x.up g1) fun w z n2 H2 g2 i2 r2 ⟨es, ez, p⟩ => by
    subst ey ez
    obtain ⟨a, xs, rfl, ha, hx⟩ := da_list (Rep.up r1 g2)
    obtain ⟨b, ys, rfl, hb, hy⟩ := da_list r2
    exact ⟨a, b, xs, ys, rfl, .inl ⟨SqL.of (C.sub _ _ ha), SqL.of (C.sub _ _ hb), k _ n2 H2 _ (C.trans g1 g2) i2 p (iter_zipL ha hx hb hy)⟩⟩
theorem i_comb {t u : TE} {P : Nat → List PyData → Prop} (h : EJ C E X n ρ t fun n1 x => ∃ a : Nat, x = .d (.int (a : Int)) ∧ a ≤ 8 ∧ EJ C E X n1 ρ u fun n2 y => ∃ b : Nat, y = .d (.int (b : Int)) ∧ b ≤ 3 ∧ P n2 (combD a b)) : IJ C E X n ρ (iComb t u) P := fun σ H R' I e x k =>
  h σ H _ I e x fun v y n1 H1 g1 i1 r1 ⟨a, ey, ha, p⟩ => by
    subst ey
    have q := da_int r1
    subst q
    refine ⟨a, rfl, ha, p σ H1 _ i1 (e.up g1) (x.up g1) fun w z n2 H2 g2 i2 r2 ⟨b, ez, hb, p⟩ => ?_⟩
    subst ez
    have q := da_int r2
    subst q
    exact ⟨b, rfl, hb, k _ n2 H2 _ (C.trans g1 g2) i2 p (iter_comb (combB_small ha hb))⟩
/-! ### targets -/
theorem wipe_set {σ : St} {i : Nat} {x : Option V} : ∀ {vs : List Nat}, i ∈ vs → wipe (σ.set i x) vs = wipe σ vs
  | v :: vs, h => by
    unfold wipe
    by_cases hi : i ∈ vs
    · rw [wipe_set hi]
    · have e : i = v := by
        rcases List.mem_cons.mp h with q | q
        · exact q
        · exact absurd q hi
      subst e
      have key : ∀ (ws : List Nat) (σ : St), i ∉ ws → wipe (σ.set i x) ws = (wipe σ ws).set i x := by
        intro ws
        induction ws with
        | nil => intro σ _; rfl
        | cons w ws ih =>
          intro σ hw
          unfold wipe
          rw [ih σ (fun q => hw (List.mem_cons_of_mem _ q)), List.set_comm _ _ (fun q => hw (by rw [q]; exact List.mem_cons_self))]
      rw [key vs σ hi, List.set_set]
theorem wipe_wipe {σ : St} : ∀ {vs ws : List Nat}, (∀ i ∈ vs, i ∈ ws) → wipe (wipe σ vs) ws = wipe σ ws
  | [], _, _ => rfl
  | v :: vs, ws, h => by
    rw [show wipe σ (v :: vs) = (wipe σ vs).set v none from rfl, wipe_set (h v List.mem_cons_self), wipe_wipe fun i q => h i (List.mem_cons_of_mem _ q)]
@[simp] def wipeD (ρ : Dv) : List Nat → Dv
  | [] => ρ
  | v :: vs => (wipeD ρ vs).set v none
theorem En.wipe {C : Ctx} {H : Hp} {σ : St} {ρ : Dv} (e : En C H σ ρ) : ∀ vs : List Nat, En C H (wipe σ vs) (wipeD ρ vs)
  | [] => e
  | v :: vs => by
    have q := En.wipe e vs
    refine ⟨by unfold L2.wipe wipeD; rw [List.length_set, List.length_set, q.len], fun i x h => ?_⟩
    unfold wipeD at h
    unfold L2.wipe
    by_cases hi : v = i
    · subst hi
      rw [List.getElem?_set] at h
      simp only [if_true] at h
      split at h <;> cases h
    · rw [List.getElem?_set_ne hi] at h ⊢
      exact q.get i x h
/-- a target takes x -/
def GJ (sl : List Nat) (g : TG) (x : PyData) (ρ ρ' : Dv) : Prop := ∀ (C : Ctx) (H : Hp) (v : V) (σ : St) (R : St → Hp → Prop), Rep C H v (.d x) → En C H σ ρ →
  (∀ σ', En C H σ' ρ' → (∀ vs : List Nat, (∀ i ∈ sl, i ∈ vs) → wipe σ' vs = wipe σ vs) → R σ' H) → g v σ H R
theorem g_name {i : Nat} {x : PyData} : GJ [i] (gName i) x ρ (ρ.set i (some (.d x))) := fun C H v σ R r e k => k _ (e.set r) fun vs h => wipe_set (h i List.mem_cons_self)
theorem g_two {g1 g2 : TG} {s1 s2 : List Nat} {a b : PyData} {ρ1 ρ2 : Dv} {k : Nat} (hk : k = 2) (h1 : GJ s1 g1 a ρ ρ1) (h2 : GJ s2 g2 b ρ1 ρ2) : GJ (s1 ++ s2) (gTup K k (gCons g1 (gCons g2 gNil))) (.tuple [a, b]) ρ ρ2 := fun C H v σ R r e kk => by
  obtain ⟨c, xs, rfl, hc, hx⟩ := da_tuple r
  cases hx with
  | cons ha hx =>
    cases hx with
    | cons hb hx =>
      cases hx
      refine ⟨c, _, rfl, SqT.of (C.sub _ _ hc), hk.symm, _, _, rfl, h1 C H _ σ _ ha e fun σ1 e1 w1 => ⟨_, _, rfl, h2 C H _ σ1 _ hb e1 fun σ2 e2 w2 => ⟨rfl, kk σ2 e2 fun vs q => ?_⟩⟩⟩
      rw [w2 vs fun i hi => q i (List.mem_append_right _ hi), w1 vs fun i hi => q i (List.mem_append_left _ hi)]
/-! ### for -/
theorem s_for {wi : TI} {g : TG} {tb : TS} {p : Post} (h : IJ C E X n ρ wi fun n1 xs => ∃ I : Nat → Nat → Dv → Prop, I 0 n1 ρ ∧
      (∀ i x n2 ρ2, xs[i]? = some x → I i n2 ρ2 → ∃ sl ρ3, GJ sl g x ρ2 ρ3 ∧ SJ C E X n2 ρ3 tb ⟨fun n3 ρ4 => I (i + 1) n3 ρ4, p.rt, p.nx, fun n3 ρ4 => I (i + 1) n3 ρ4⟩) ∧ (∀ n2 ρ2, I xs.length n2 ρ2 → p.nx n2 ρ2)) :
    SJ C E X n ρ (tFor wi g tb) p := fun σ H D i0 e0 x0 k0 => h σ H _ i0 e0 x0 fun J n1 H1 xs g1 i1 ⟨I, hI, ht, hd⟩ it => by
  refine ⟨fun i m σ' H' => m = xs.length - i ∧ i ≤ xs.length ∧ ∃ n2 ρ2, C.R H1 H' ∧ C.inv n2 H' ∧ En C H' σ' ρ2 ∧ I i n2 ρ2, ⟨xs.length, by simp, Nat.zero_le _, n1, ρ, C.refl _, i1, e0.up g1, hI⟩, ?_⟩
  rintro i m σ' H' ⟨rfl, hi, n2, ρ2, g2, i2, e2, p2⟩
  obtain ⟨q1, q2, q3⟩ := it H' fun b o e => C.sub _ _ (C.vwm g2 _ _ e)
  by_cases hlt : i < xs.length
  · refine .inr ⟨q1 i hlt, fun σ3 H3 => ∃ n3 ρ3, C.R H1 H3 ∧ C.inv n3 H3 ∧ En C H3 σ3 ρ3 ∧ I (i + 1) n3 ρ3, fun σ3 H3 w => ⟨xs.length - (i + 1), by omega, rfl, hlt, w⟩, fun v H3 hy => ?_⟩
    have hx : xs[i]? = some xs[i] := List.getElem?_eq_getElem hlt
    obtain ⟨a, b, c⟩ := item_in (q3 i _ v H3 hx hy) i2 (fun b o e => C.vwm g2 _ _ e)
    obtain ⟨sl, ρ3, hg, hb⟩ := ht i _ n2 ρ2 hx p2
    refine hg C H3 v σ' _ c (e2.up a) fun σ4 e4 _ => ?_
    have g13 := C.trans g2 a
    exact hb σ4 H3 _ b e4 ((x0.up g1).up g13) ⟨fun σ5 ρ5 n5 H5 g5 i5 e5 p5 => ⟨n5, ρ5, C.trans g13 g5, i5, e5, p5⟩, ((k0.up g1).up g13).rt, ((k0.up g1).up g13).nx, fun σ5 ρ5 n5 H5 g5 i5 e5 p5 => ⟨n5, ρ5, C.trans g13 g5, i5, e5, p5⟩⟩
  · have e : i = xs.length := by omega
    subst e
    exact .inl ⟨q2, k0.nx σ' ρ2 n2 H' (C.trans g1 g2) i2 e2 (hd _ _ p2)⟩
/-! ### list comprehensions -/
theorem rep_hide {D : Addr} {H : Hp} {v : V} {x : DVal} (r : Rep C (off H D) v x) : Rep (hideC C D) H v x := by
  cases x with
  | d x => exact r
  | h u => exact r
  | o x =>
    obtain ⟨L, h1, h2⟩ := r
    exact ⟨L, h1, h2.mono (fun _ _ h => h) fun a o _ e _ => (off_some e).2⟩
theorem en_hide {D : Addr} {H : Hp} {σ : St} {ρ : Dv} (e : En C (off H D) σ ρ) : En (hideC C D) H σ ρ :=
  ⟨e.len, fun i x h => let ⟨v, a, b⟩ := e.get i x h; ⟨v, a, rep_hide b⟩⟩
/-- the list at D has grown -/
theorem En.hup {D : Addr} {H H' : Hp} {σ : St} {ρ : Dv} (e : En (hideC C D) H σ ρ) (hd : ¬ C.hid D) (g : C.R (off H D) (off H' D)) : En (hideC C D) H' σ ρ :=
  ⟨e.len, fun i x h => by
    obtain ⟨v, a, b⟩ := e.get i x h
    refine ⟨v, a, ?_⟩
    cases x with
    | d x => exact Da.mono (C.vwm g) b
    | h u => exact b
    | o x =>
      obtain ⟨L, h1, h2⟩ := b
      refine ⟨L, h1, h2.mono (C.vwm g) fun a o ha e hn => ?_⟩
      have hD : a ≠ D := fun z => hd (z ▸ h1 a ha)
      have := C.kept g (h1 a ha) (show off H D a = some o by rw [off_ne hD]; exact e) hn
      exact (off_some this).2⟩
theorem nohid {H : Hp} {D : Addr} (I : C.inv n H) (h : H D = none) : ¬ C.hid D := fun z => by
  obtain ⟨o, e, _⟩ := C.live I z
  rw [h] at e
  cases e
theorem e_lc {wi : TI} {g : TG} {tt : TT} {te : TE} {vs : List Nat} {P : Nat → DVal → Prop} (h : IJ C E X n ρ wi fun n1 xs => xs.length ≤ 5000 ∧ ∃ I : Nat → Nat → List PyData → Prop, I 0 n1 [] ∧
      (∀ C', Le C C' → ∀ i x n2 acc, xs[i]? = some x → I i n2 acc → ∃ sl ρ', (∀ j ∈ sl, j ∈ vs) ∧ GJ sl g x (wipeD ρ vs) ρ' ∧
        TJ C' E noX n2 ρ' tt fun n3 b => if b = true then EJ C' E noX n3 ρ' te fun n4 y => ∃ d, y = .d d ∧ I (i + 1) n4 (acc ++ [d]) else I (i + 1) n3 acc) ∧
      (∀ n2 acc, acc.length ≤ xs.length → I xs.length n2 acc → P n2 (.d (.list acc)))) : EJ C E X n ρ (tLc wi g tt te vs) P := fun σ H Q i0 e0 x0 k0 => h σ H _ i0 e0 x0 fun J n1 H1 xs g1 i1 ⟨hz, I, hI, ht, hd⟩ it => by
  intro D hD
  have nh := nohid i1 hD
  have o0 : off (upd H1 D (.lst [])) D = H1 := by rw [off_upd_at, off_none hD]
  refine ⟨fun i m H' => m = xs.length - i ∧ i ≤ xs.length ∧ ∃ n2 acc accV, H' D = some (.lst accV) ∧ DaL (C.vw (off H' D)) accV acc ∧ acc.length ≤ i ∧ C.R H1 (off H' D) ∧ C.inv n2 (off H' D) ∧ I i n2 acc,
    ⟨xs.length, by simp, Nat.zero_le _, n1, [], [], upd_same, .nil, Nat.zero_le _, by rw [o0]; exact C.refl _, by rw [o0]; exact i1, hI⟩, ?_⟩
  rintro i m H' ⟨rfl, hi, n2, acc, accV, hDl, hacc, hal, g2, i2, p2⟩
  obtain ⟨q1, q2, q3⟩ := it H' fun b o e => (off_some (C.sub _ _ (C.vwm g2 _ _ e))).2
  by_cases hlt : i < xs.length
  · refine .inr ⟨q1 i hlt, fun H3 => ∃ n3 acc3 accV3, H3 D = some (.lst accV3) ∧ DaL (C.vw (off H3 D)) accV3 acc3 ∧ acc3.length ≤ i + 1 ∧ C.R H1 (off H3 D) ∧ C.inv n3 (off H3 D) ∧ I (i + 1) n3 acc3, fun H3 w => ⟨xs.length - (i + 1), by omega, rfl, hlt, w⟩, fun v H3 hy => ?_⟩
    have hx : xs[i]? = some xs[i] := List.getElem?_eq_getElem hlt
    have ih : (hideC C D).inv n2 H' := ⟨i2, ⟨_, hDl, rfl⟩, nh⟩
    obtain ⟨a, b, c⟩ := item_in (C := hideC C D) (q3 i _ v H3 hx hy) ih (fun b o e => C.vwm g2 _ _ e)
    obtain ⟨sl, ρ', hsl, hg, hb⟩ := ht (hideC C D) (Le.hide C D) i _ n2 acc hx p2
    have en1 : En (hideC C D) H3 (wipe σ vs) (wipeD ρ vs) := En.up (en_hide (((e0.wipe vs).up g1).up g2)) a
    refine hg (hideC C D) H3 v (wipe σ vs) _ c en1 fun σ4 e4 w4 => ⟨?_, ?_⟩
    · rw [w4 vs hsl, wipe_wipe fun i q => q]
    · have D3 : H3 D = some (.lst accV) := a.2 _ hDl
      refine hb σ4 H3 _ b e4 (fun _ _ _ _ _ _ _ _ _ _ _ z => z.elim) fun bb n3 H4 g4 i4 p4 => ?_
      have D4 : H4 D = some (.lst accV) := g4.2 _ D3
      have g14 : C.R H1 (off H4 D) := C.trans g2 (C.trans a.1 g4.1)
      have acc4 : DaL (C.vw (off H4 D)) accV acc := (hacc.mono (C.vwm a.1)).mono (C.vwm g4.1)
      by_cases hbb : bb = true
      · replace p4 := ifp hbb p4
        rw [if_pos hbb]
        refine p4 σ4 H4 _ i4 (e4.up g4) (fun _ _ _ _ _ _ _ _ _ _ _ z => z.elim) fun w y n4 H5 g5 i5 r5 ⟨d, ey, p5⟩ => ?_
        subst ey
        have D5 : H5 D = some (.lst accV) := g5.2 _ D4
        have acc5 := acc4.mono (C.vwm g5.1)
        refine ⟨accV, D5, ?_, n4, acc ++ [d], accV ++ [w], upd_same, ?_, ?_, ?_, ?_, p5⟩
        · rw [acc5.length]
          exact Nat.lt_of_lt_of_le (show acc.length < 5001 by omega) (by rw [sizeLine_eq]; decide)
        · rw [off_upd_at]
          exact dal_app acc5 (.cons r5 .nil)
        · rw [List.length_append]; show acc.length + 1 ≤ _; omega
        · rw [off_upd_at]; exact C.trans g14 g5.1
        · rw [off_upd_at]; exact i5.1
      · replace p4 := ifn hbb p4
        rw [if_neg hbb]
        exact ⟨n3, acc, accV, D4, acc4, by omega, g14, i4.1, p4⟩
  · have e : i = xs.length := by omega
    subst e
    refine .inl ⟨q2, ?_⟩
    obtain ⟨a, b, c⟩ := C.new (.lst accV) i2 (off_at (H := H') (m := D))
    rw [upd_off hDl] at a b c
    exact k0 _ _ n2 H' (C.trans g1 (C.trans g2 a)) b (.lst c (hacc.mono (C.vwm a))) (hd n2 acc hal p2)
end
end DC
set_option Elab.async false
set_option linter.all false
set_option maxRecDepth 100000
set_option maxHeartbeats 4000000
set_option autoImplicit false
namespace DC
open PySem L2 Gd CpComb RZ
section
variable {C : Ctx} {E : XK} {X : XP} {n : Nat} {ρ : Dv} {K : PySem.W.Frag} {P : Nat → DVal → Prop} {p : Post}
theorem e_lc2 {wi wi1 : TI} {g g1 : TG} {tt tt1 : TT} {te : TE} {vs vs1 : List Nat} (h : IJ C E X n ρ wi fun n1 xs => ∃ I : Nat → Nat → List PyData → Prop, I 0 n1 [] ∧
      (∀ C', Le C C' → ∀ i x n2 acc, xs[i]? = some x → I i n2 acc → ∃ sl ρ', (∀ j ∈ sl, j ∈ vs) ∧ GJ sl g x (wipeD ρ vs) ρ' ∧
        TJ C' E noX n2 ρ' tt fun n3 b => if b = true then IJ C' E noX n3 ρ' wi1 fun n4 ys => ∃ J : Nat → Nat → List PyData → Prop, J 0 n4 acc ∧
            (∀ j y n5 acc2, ys[j]? = some y → J j n5 acc2 → acc2.length ≤ 4999 ∧ ∃ sl1 ρ'', (∀ q ∈ sl1, q ∈ vs1) ∧ GJ sl1 g1 y (wipeD ρ' vs1) ρ'' ∧
              TJ C' E noX n5 ρ'' tt1 fun n6 b => if b = true then EJ C' E noX n6 ρ'' te fun n7 z => ∃ d, z = .d d ∧ J (j + 1) n7 (acc2 ++ [d]) else J (j + 1) n6 acc2) ∧
            (∀ n5 acc2, J ys.length n5 acc2 → I (i + 1) n5 acc2) else I (i + 1) n3 acc) ∧
      (∀ n2 acc, I xs.length n2 acc → P n2 (.d (.list acc)))) : EJ C E X n ρ (tLc2 wi g tt wi1 g1 tt1 te vs vs1) P := fun σ H Q i0 e0 x0 k0 => h σ H _ i0 e0 x0 fun J n1 H1 xs gr1 i1 ⟨I, hI, ht, hd⟩ it => by
  intro D hD
  have nh := nohid i1 hD
  have o0 : off (upd H1 D (.lst [])) D = H1 := by rw [off_upd_at, off_none hD]
  refine ⟨fun i m H' => m = xs.length - i ∧ i ≤ xs.length ∧ ∃ n2 acc accV, H' D = some (.lst accV) ∧ DaL (C.vw (off H' D)) accV acc ∧ C.R H1 (off H' D) ∧ C.inv n2 (off H' D) ∧ I i n2 acc,
    ⟨xs.length, by simp, Nat.zero_le _, n1, [], [], upd_same, .nil, by rw [o0]; exact C.refl _, by rw [o0]; exact i1, hI⟩, ?_⟩
  rintro i m H' ⟨rfl, hi, n2, acc, accV, hDl, hacc, g2, i2, p2⟩
  obtain ⟨q1, q2, q3⟩ := it H' fun b o e => (off_some (C.sub _ _ (C.vwm g2 _ _ e))).2
  by_cases hlt : i < xs.length
  · refine .inr ⟨q1 i hlt, fun H3 => ∃ n3 acc3 accV3, H3 D = some (.lst accV3) ∧ DaL (C.vw (off H3 D)) accV3 acc3 ∧ C.R H1 (off H3 D) ∧ C.inv n3 (off H3 D) ∧ I (i + 1) n3 acc3, fun H3 w => ⟨xs.length - (i + 1), by omega, rfl, hlt, w⟩, fun v H3 hy => ?_⟩
    have hx : xs[i]? = some xs[i] := List.getElem?_eq_getElem hlt
    have ih : (hideC C D).inv n2 H' := ⟨i2, ⟨_, hDl, rfl⟩, nh⟩
    obtain ⟨a, b, c⟩ := item_in (C := hideC C D) (q3 i _ v H3 hx hy) ih (fun b o e => C.vwm g2 _ _ e)
    obtain ⟨sl, ρ', hsl, hg, hb⟩ := ht (hideC C D) (Le.hide C D) i _ n2 acc hx p2
    have en1 : En (hideC C D) H3 (wipe σ vs) (wipeD ρ vs) := En.up (en_hide (((e0.wipe vs).up gr1).up g2)) a
    refine hg (hideC C D) H3 v (wipe σ vs) _ c en1 fun σ4 e4 w4 => ⟨?_, ?_⟩
    · rw [w4 vs hsl, wipe_wipe fun i q => q]
    · have D3 : H3 D = some (.lst accV) := a.2 _ hDl
      have nox : ∀ H : Hp, XOk (hideC C D) H E noX := fun H _ _ _ _ _ _ _ _ _ _ _ z => z.elim
      refine hb σ4 H3 _ b e4 (nox _) fun bb n3 H4 g4 i4 p4 => ?_
      have D4 : H4 D = some (.lst accV) := g4.2 _ D3
      have g14 : C.R H1 (off H4 D) := C.trans g2 (C.trans a.1 g4.1)
      have acc4 : DaL (C.vw (off H4 D)) accV acc := (hacc.mono (C.vwm a.1)).mono (C.vwm g4.1)
      by_cases hbb : bb = true
      · replace p4 := ifp hbb p4
        rw [if_pos hbb]
        refine p4 σ4 H4 _ i4 (e4.up g4) (nox _) fun J1 n5 H5 ys g5 i5 ⟨Jv, hJ, ht1, hd1⟩ it1 => ?_
        have D5 : H5 D = some (.lst accV) := g5.2 _ D4
        have e5 : En (hideC C D) H5 σ4 ρ' := (e4.up g4).up g5
        refine ⟨fun j k H6 => k = ys.length - j ∧ j ≤ ys.length ∧ ∃ n6 acc6 accV6, H6 D = some (.lst accV6) ∧ DaL (C.vw (off H6 D)) accV6 acc6 ∧ C.R (off H5 D) (off H6 D) ∧ C.inv n6 (off H6 D) ∧ Jv j n6 acc6,
          ⟨ys.length, by simp, Nat.zero_le _, n5, acc, accV, D5, acc4.mono (C.vwm g5.1), C.refl _, i5.1, hJ⟩, ?_⟩
        rintro j k H6 ⟨rfl, hj, n6, acc6, accV6, D6, hacc6, g6, i6, p6⟩
        obtain ⟨r1, r2, r3⟩ := it1 H6 fun b o e => (off_some (C.sub _ _ (C.vwm g6 _ _ e))).2
        by_cases hlt1 : j < ys.length
        · refine .inr ⟨r1 j hlt1, fun H7 => ∃ n7 acc7 accV7, H7 D = some (.lst accV7) ∧ DaL (C.vw (off H7 D)) accV7 acc7 ∧ C.R (off H5 D) (off H7 D) ∧ C.inv n7 (off H7 D) ∧ Jv (j + 1) n7 acc7, fun H7 w => ⟨ys.length - (j + 1), by omega, rfl, hlt1, w⟩, fun v7 H7 hy7 => ?_⟩
          have hy1 : ys[j]? = some ys[j] := List.getElem?_eq_getElem hlt1
          have ih6 : (hideC C D).inv n6 H6 := ⟨i6, ⟨_, D6, rfl⟩, nh⟩
          obtain ⟨a7, b7, c7⟩ := item_in (C := hideC C D) (r3 j _ v7 H7 hy1 hy7) ih6 (fun b o e => C.vwm g6 _ _ e)
          obtain ⟨hl6, sl1, ρ'', hsl1, hg1, hb1⟩ := ht1 j _ n6 acc6 hy1 p6
          have e6 : En (hideC C D) H6 σ4 ρ' := e5.hup nh g6
          have e7 : En (hideC C D) H7 (wipe σ4 vs1) (wipeD ρ' vs1) := (e6.wipe vs1).up a7
          refine hg1 (hideC C D) H7 v7 (wipe σ4 vs1) _ c7 e7 fun σ8 e8 w8 => ⟨?_, ?_⟩
          · rw [w8 vs1 hsl1, wipe_wipe fun i q => q]
          · have D7 : H7 D = some (.lst accV6) := a7.2 _ D6
            refine hb1 σ8 H7 _ b7 e8 (nox _) fun b8 n8 H8 g8 i8 p8 => ?_
            have D8 : H8 D = some (.lst accV6) := g8.2 _ D7
            have g58 : C.R (off H5 D) (off H8 D) := C.trans g6 (C.trans a7.1 g8.1)
            have acc8 : DaL (C.vw (off H8 D)) accV6 acc6 := (hacc6.mono (C.vwm a7.1)).mono (C.vwm g8.1)
            by_cases hb8 : b8 = true
            · replace p8 := ifp hb8 p8
              rw [if_pos hb8]
              refine p8 σ8 H8 _ i8 (e8.up g8) (nox _) fun w y n9 H9 g9 i9 r9 ⟨d, ey, p9⟩ => ?_
              subst ey
              have D9 : H9 D = some (.lst accV6) := g9.2 _ D8
              have acc9 := acc8.mono (C.vwm g9.1)
              refine ⟨accV6, D9, ?_, n9, acc6 ++ [d], accV6 ++ [w], upd_same, ?_, ?_, ?_, p9⟩
              · rw [acc9.length]
                exact Nat.lt_of_lt_of_le (show acc6.length < 5001 by omega) (by rw [sizeLine_eq]; decide)
              · rw [off_upd_at]
                exact dal_app acc9 (.cons r9 .nil)
              · rw [off_upd_at]; exact C.trans g58 g9.1
              · rw [off_upd_at]; exact i9.1
            · replace p8 := ifn hb8 p8
              rw [if_neg hb8]
              exact ⟨n8, acc6, accV6, D8, acc8, g58, i8.1, p8⟩
        · have e : j = ys.length := by omega
          subst e
          exact .inl ⟨r2, n6, acc6, accV6, D6, hacc6, C.trans g14 (C.trans g5.1 g6), i6, hd1 _ _ p6⟩
      · replace p4 := ifn hbb p4
        rw [if_neg hbb]
        exact ⟨n3, acc, accV, D4, acc4, g14, i4.1, p4⟩
  · have e : i = xs.length := by omega
    subst e
    refine .inl ⟨q2, ?_⟩
    obtain ⟨a, b, c⟩ := C.new (.lst accV) i2 (off_at (H := H') (m := D))
    rw [upd_off hDl] at a b c
    exact k0 _ _ n2 H' (C.trans gr1 (C.trans g2 a)) b (.lst c (hacc.mono (C.vwm a))) (hd n2 acc p2)
end
end DC
set_option Elab.async false
set_option linter.all false
set_option maxRecDepth 100000
set_option maxHeartbeats 4000000
set_option autoImplicit false
namespace Gd
open PySem L2
/-- no dict in it -/
def noDict : PyData → Bool
  | .dict _ => false
  | .list xs => go xs
  | .tuple xs => go xs
  | _ => true
where go : List PyData → Bool
  | [] => true
  | x :: xs => noDict x && go xs
mutual
theorem da_dp2 {K : PySem.W.Frag} {H : Hp} : ∀ {v : V} {d : PyData}, Da H v d → noDict d = true → Dp K H v d
  | _, _, .non, _ => .non
  | _, _, .bl b, _ => .bl b
  | _, _, .int i, _ => .int i
  | _, _, .str x, _ => .str x
  | _, _, .lst h r, f => .lst (SqL.of h) (dal_dp2 r (by simpa only [noDict] using f))
  | _, _, .tup h r, f => .tup (SqT.of h) (dal_dp2 r (by simpa only [noDict] using f))
  | _, _, .dic h r, f => by simp [noDict] at f
theorem dal_dp2 {K : PySem.W.Frag} {H : Hp} : ∀ {vs : List V} {ds : List PyData}, DaL H vs ds → noDict.go ds = true → DpAll K H vs ds
  | _, _, .nil, _ => .nil
  | _, _, .cons h r, q => by
    rw [noDict.go, Bool.and_eq_true] at q
    exact .cons (da_dp2 h q.1) (dal_dp2 r q.2)
end
def plain (d : PyData) : Bool := noDict d && SeqAt.shaped d
end Gd
namespace DC
open PySem L2 Gd CpComb RZ PySem.ExG
section
variable {C : Ctx} {E : XK} {X : XP} {n : Nat} {ρ : Dv} {K : PySem.W.Frag} {P : Nat → DVal → Prop} {p : Post}
/-- raise X(e) -/
theorem s_raise {Ca : Addr} {f : Str} {ta : TA} (h : AJ C E X n ρ ta fun n1 xs => ∃ d, xs = [.d d] ∧ X n1 Ca f d) : SJ C E X n ρ (tRaiseEx Ca f (fun cls d _ H => E cls d H) ta) p := fun σ H D I e x k =>
  h σ H _ I e x fun vs xs n1 H1 g i r ⟨d, ex, px⟩ => by
    subst ex
    obtain ⟨v, rfl, rv⟩ := repL1 r
    refine ⟨v, rfl, fun dd hdd => ?_⟩
    obtain ⟨a, b, c⟩ := C.new (.xd [(f, v)]) i hdd
    exact x Ca f dd v d n1 _ (C.trans g a) b c (Da.mono (C.vwm a) rv) px
theorem inV_ints {i : Int} : ∀ ns : List Int, inV (.int i) (ns.map V.int) = ns.contains i
  | [] => rfl
  | m :: ns => by
    have e : eqV (.int m) (.int i) = (i == m) := by
      rw [Bool.eq_iff_iff]
      simp [eqV]
      exact eq_comm
    have q := inV_ints (i := i) ns
    unfold inV at q ⊢
    rw [List.map_cons, List.any_cons, List.contains_cons, q, e]
theorem inV_strs {i : Str} : ∀ ns : List Str, inV (.str i) (ns.map V.str) = ns.contains i
  | [] => rfl
  | m :: ns => by
    have e : eqV (.str m) (.str i) = (i == m) := by
      rw [Bool.eq_iff_iff]
      simp [eqV]
      exact eq_comm
    have q := inV_strs (i := i) ns
    unfold inV at q ⊢
    rw [List.map_cons, List.any_cons, List.contains_cons, q, e]
theorem flat_ints (ns : List Int) : (ns.map V.int).all flatV = true := by
  rw [List.all_eq_true]
  intro v hv
  obtain ⟨i, _, rfl⟩ := List.mem_map.mp hv
  rfl
theorem flat_strs (ns : List Str) : (ns.map V.str).all flatV = true := by
  rw [List.all_eq_true]
  intro v hv
  obtain ⟨i, _, rfl⟩ := List.mem_map.mp hv
  rfl
theorem da_str {H : Hp} {v : V} {x : Str} (h : Da H v (.str x)) : v = .str x := by cases h; rfl
theorem dal_strs {H : Hp} : ∀ {xs : List V} {bs : List Str}, DaL H xs (bs.map .str) → xs = bs.map V.str
  | _, [], .nil => rfl
  | _, b :: bs, .cons h r => by
    rw [da_str h, dal_strs r]
    rfl
/-- i in ns, ns a list or tuple of ints -/
theorem e_inI {neg : Bool} {ta tb : TE} (h : EJ C E X n ρ ta fun n1 x => ∃ i, x = .d (.int i) ∧ EJ C E X n1 ρ tb fun n2 y => ∃ ns : List Int, seqOf y = some (ns.map .int) ∧ P n2 (.d (.bool (if neg = true then !ns.contains i else ns.contains i)))) : EJ C E X n ρ (tOp (rIn K neg) ta tb) P :=
  e_two (h.imp fun n1 x ⟨i, e, q⟩ => by
    subst e
    refine q.imp fun n2 y ⟨ns, hs, p⟩ => ?_
    intro H2 v u Q I r1 r2 k
    have a := da_int r1
    subst a
    obtain ⟨a, xs, rfl, ha, hx⟩ := seq_rep (K := K) hs r2
    have ex := dal_ints hx
    subst ex
    refine ⟨a, _, rfl, ha, rfl, flat_ints ns, ?_⟩
    rw [inV_ints]
    exact k _ _ _ (C.refl _) I (.bl _) p)
theorem e_inS {neg : Bool} {ta tb : TE} (h : EJ C E X n ρ ta fun n1 x => ∃ i, x = .d (.str i) ∧ EJ C E X n1 ρ tb fun n2 y => ∃ ns : List Str, seqOf y = some (ns.map .str) ∧ P n2 (.d (.bool (if neg = true then !ns.contains i else ns.contains i)))) : EJ C E X n ρ (tOp (rIn K neg) ta tb) P :=
  e_two (h.imp fun n1 x ⟨i, e, q⟩ => by
    subst e
    refine q.imp fun n2 y ⟨ns, hs, p⟩ => ?_
    intro H2 v u Q I r1 r2 k
    have a := da_str r1
    subst a
    obtain ⟨a, xs, rfl, ha, hx⟩ := seq_rep (K := K) hs r2
    have ex := dal_strs hx
    subst ex
    refine ⟨a, _, rfl, ha, rfl, flat_strs ns, ?_⟩
    rw [inV_strs]
    exact k _ _ _ (C.refl _) I (.bl _) p)
/-- ==, != of two ints, two texts -/
def sc : PyData → PyData → Option Bool
  | .int i, .int j => some (decide (i = j))
  | .str i, .str j => some (decide (i = j))
  | .bool i, .bool j => some (decide (i = j))
  | _, _ => none
theorem sc_rep {H : Hp} {v u : V} {d e : PyData} {b : Bool} (h : sc d e = some b) (r1 : Da H v d) (r2 : Da H u e) : scal v u = true ∧ decide (v = u) = b := by
  cases r1 <;> cases r2 <;> first | (simp [sc] at h; done) | (simp only [sc, Option.some.injEq] at h; subst h; exact ⟨rfl, by simp⟩) | (exfalso; revert h; simp [sc])
theorem e_eq {ta tb : TE} (h : EJ C E X n ρ ta fun n1 x => EJ C E X n1 ρ tb fun n2 y => ∃ d e b, x = .d d ∧ y = .d e ∧ sc d e = some b ∧ P n2 (.d (.bool b))) : EJ C E X n ρ (tOp rEq ta tb) P :=
  e_two (h.imp fun n1 x q => q.imp fun n2 y ⟨d, e, b, ex, ey, hb, p⟩ => by
    subst ex ey
    intro H2 v u Q I r1 r2 k
    obtain ⟨h1, h2⟩ := sc_rep hb r1 r2
    refine ⟨h1, ?_⟩
    rw [h2]
    exact k _ _ _ (C.refl _) I (.bl _) p)
theorem e_ne {ta tb : TE} (h : EJ C E X n ρ ta fun n1 x => EJ C E X n1 ρ tb fun n2 y => ∃ d e b, x = .d d ∧ y = .d e ∧ sc d e = some b ∧ P n2 (.d (.bool (!b)))) : EJ C E X n ρ (tOp rNe ta tb) P :=
  e_two (h.imp fun n1 x q => q.imp fun n2 y ⟨d, e, b, ex, ey, hb, p⟩ => by
    subst ex ey
    intro H2 v u Q I r1 r2 k
    obtain ⟨h1, h2⟩ := sc_rep hb r1 r2
    refine ⟨h1, ?_⟩
    rw [h2]
    exact k _ _ _ (C.refl _) I (.bl _) p)
/-- == of data -/
theorem e_eqD {ta tb : TE} (h : EJ C E X n ρ ta fun n1 x => EJ C E X n1 ρ tb fun n2 y => ∃ d e, x = .d d ∧ y = .d e ∧ Gd.plain d = true ∧ Gd.plain e = true ∧ P n2 (.d (.bool (PyData.eqv d e)))) : EJ C E X n ρ (tOp (rEqD K) ta tb) P :=
  e_two (h.imp fun n1 x q => q.imp fun n2 y ⟨d, e, ex, ey, p1, p2, p⟩ => by
    subst ex ey
    intro H2 v u Q I r1 r2 k
    unfold Gd.plain at p1 p2
    rw [Bool.and_eq_true] at p1 p2
    exact ⟨d, e, da_dp2 (Da.mono (C.sub (H := H2)) r1) p1.1, da_dp2 (Da.mono (C.sub (H := H2)) r2) p2.1, p1.2, p2.2, k _ _ _ (C.refl _) I (.bl _) p⟩)
theorem e_neD {ta tb : TE} (h : EJ C E X n ρ ta fun n1 x => EJ C E X n1 ρ tb fun n2 y => ∃ d e, x = .d d ∧ y = .d e ∧ Gd.plain d = true ∧ Gd.plain e = true ∧ P n2 (.d (.bool (!PyData.eqv d e)))) : EJ C E X n ρ (tOp (rNeD K) ta tb) P :=
  e_two (h.imp fun n1 x q => q.imp fun n2 y ⟨d, e, ex, ey, p1, p2, p⟩ => by
    subst ex ey
    intro H2 v u Q I r1 r2 k
    unfold Gd.plain at p1 p2
    rw [Bool.and_eq_true] at p1 p2
    exact ⟨d, e, da_dp2 (Da.mono (C.sub (H := H2)) r1) p1.1, da_dp2 (Da.mono (C.sub (H := H2)) r2) p2.1, p1.2, p2.2, k _ _ _ (C.refl _) I (.bl _) p⟩)
/-- repr -/
theorem e_repr {ta : TE} (h : EJ C E X n ρ ta fun n1 x => ∃ d, x = .d d ∧ Sm 16000000 30 d ∧ P n1 (.d (.str d.shown))) : EJ C E X n ρ (tCB rRepr (tCons ta tNil)) P :=
  e_cb (a_cons (h.imp fun n1 x ⟨d, ex, hs, p⟩ => a_nil fun H1 vs Q I r k => by
    subst ex
    obtain ⟨v, rfl, rv⟩ := repL1 r
    exact ⟨v, d, rfl, Da.mono (C.sub (H := H1)) rv, hs, k _ _ _ (C.refl _) I (.str _) p⟩))
theorem e_min2 {ta tb : TE} (h : EJ C E X n ρ ta fun n1 x => ∃ i, x = .d (.int i) ∧ EJ C E X n1 ρ tb fun n2 y => ∃ j, y = .d (.int j) ∧ P n2 (.d (.int (if j < i then j else i)))) :
    EJ C E X n ρ (tCB (fun xs H Q => ∃ i j, xs = [.int i, .int j] ∧ Q (.int (if j < i then j else i)) H) (tCons ta (tCons tb tNil))) P :=
  e_cb (a_cons (h.imp fun n1 x ⟨i, ex, q⟩ => a_cons (q.imp fun n2 y ⟨j, ey, p⟩ => a_nil fun H1 vs Q I r k => by
    subst ex ey
    obtain ⟨v, u, rfl, rv, ru⟩ := repL2 r
    have a := da_int rv
    have b := da_int ru
    subst a b
    exact ⟨i, j, rfl, k _ _ _ (C.refl _) I (.int _) p⟩)))
theorem e_intI {ta : TE} (h : EJ C E X n ρ ta fun n1 x => ∃ i, x = .d (.int i) ∧ P n1 (.d (.int i))) :
    EJ C E X n ρ (tCB (fun xs H Q => (∃ i, xs = [.int i] ∧ Q (.int i) H) ∨ ∃ k, xs = [.bl k] ∧ Q (.int (if k then 1 else 0)) H) (tCons ta tNil)) P :=
  e_cb (a_cons (h.imp fun n1 x ⟨i, ex, p⟩ => a_nil fun H1 vs Q I r k => by
    subst ex
    obtain ⟨v, rfl, rv⟩ := repL1 r
    have a := da_int rv
    subst a
    exact .inl ⟨i, rfl, k _ _ _ (C.refl _) I (.int _) p⟩))
/-- tuple + tuple -/
theorem e_catT {ta tb : TE} (h : EJ C E X n ρ ta fun n1 x => ∃ ds, x = .d (.tuple ds) ∧ EJ C E X n1 ρ tb fun n2 y => ∃ es, y = .d (.tuple es) ∧ ds.length + es.length ≤ 5000 ∧ P n2 (.d (.tuple (ds ++ es)))) : EJ C E X n ρ (tOp (rCatA K) ta tb) P :=
  e_two (h.imp fun n1 x ⟨ds, e, q⟩ => by
    subst e
    refine q.imp fun n2 y ⟨es, e, hl, p⟩ => ?_
    subst e
    intro H2 v u Q I r1 r2 k
    obtain ⟨a, xs, rfl, ha, hx⟩ := da_tuple r1
    obtain ⟨b, ys, rfl, hb, hy⟩ := da_tuple r2
    refine ⟨a, b, xs, ys, rfl, rfl, SqT.of (C.sub _ _ ha), SqT.of (C.sub _ _ hb), by rw [hx.length, hy.length]; exact slz hl, fun e => ?_, fun _ e => ?_, fun _ _ q hq => ?_⟩
    · subst e
      cases hx
      exact k _ _ _ (C.refl _) I (.tup hb hy) p
    · subst e
      cases hy
      rw [List.append_nil] at p
      exact k _ _ _ (C.refl _) I (.tup ha hx) p
    · obtain ⟨a', b', c'⟩ := C.new (.tup (xs ++ ys)) I hq
      exact k _ _ _ a' b' (.tup c' ((dal_app hx hy).mono (C.vwm a'))) p)
def OJ (C : Ctx) (E : XK) (X : XP) (n : Nat) (ρ : Dv) (t : TO) (P : Nat → Option Int → Prop) : Prop := ∀ σ H Q, C.inv n H → En C H σ ρ → XOk C H E X → (∀ b n' H', C.R H H' → C.inv n' H' → P n' b → Q b H') → t σ H Q
theorem o_none {P : Nat → Option Int → Prop} (h : P n none) : OJ C E X n ρ tNoPart P := fun _ H _ I _ _ k => k none n H (C.refl H) I h
theorem o_some {t : TE} {P : Nat → Option Int → Prop} (h : EJ C E X n ρ t fun n1 x => ∃ i, x = .d (.int i) ∧ P n1 (some i)) : OJ C E X n ρ (tPart t) P := fun σ H Q I e x k =>
  h σ H _ I e x fun v y n1 H1 g i r ⟨j, ey, p⟩ => by
    subst ey
    exact ⟨j, da_int r, k _ n1 H1 g i p⟩
theorem dal_drop {H : Hp} : ∀ {xs : List V} {ds : List PyData} (k : Nat), DaL H xs ds → DaL H (xs.drop k) (ds.drop k)
  | _, _, 0, h => h
  | _, _, k + 1, .nil => .nil
  | _, _, k + 1, .cons _ r => dal_drop k r
theorem dal_take {H : Hp} : ∀ {xs : List V} {ds : List PyData} (k : Nat), DaL H xs ds → DaL H (xs.take k) (ds.take k)
  | _, _, 0, _ => .nil
  | _, _, k + 1, .nil => .nil
  | _, _, k + 1, .cons h r => .cons h (dal_take k r)
/-- the slice of data -/
def cutD (ds : List PyData) (lo hi : Option Int) : List PyData := (ds.drop (HT.sIx ds.length 0 lo)).take (HT.sIx ds.length ds.length hi - HT.sIx ds.length 0 lo)
theorem dal_cut {H : Hp} {xs : List V} {ds : List PyData} (h : DaL H xs ds) (lo hi : Option Int) : DaL H (cutV xs lo hi) (cutD ds lo hi) := by
  unfold cutV cutD
  rw [h.length]
  exact dal_take _ (dal_drop _ h)
theorem e_slT {ta : TE} {tl th : TO} (h : EJ C E X n ρ ta fun n1 x => ∃ ds, x = .d (.tuple ds) ∧ OJ C E X n1 ρ tl fun n2 lo => OJ C E X n2 ρ th fun n3 hi => P n3 (.d (.tuple (cutD ds lo hi)))) : EJ C E X n ρ (tSl (rSlA K) ta tl th) P := fun σ H Q I e x k =>
  h σ H _ I e x fun v y n1 H1 g1 i1 r1 ⟨ds, ey, p⟩ => p σ H1 _ i1 (e.up g1) (x.up g1) fun lo n2 H2 g2 i2 p => p σ H2 _ i2 ((e.up g1).up g2) ((x.up g1).up g2) fun hi n3 H3 g3 i3 p => by
    subst ey
    obtain ⟨a, xs, rfl, ha, hx⟩ := da_tuple ((Rep.up r1 g2).up g3)
    have g := C.trans g1 (C.trans g2 g3)
    refine ⟨a, xs, rfl, SqT.of (C.sub _ _ ha), fun hw => ?_, fun _ q hq => ?_⟩
    · refine k _ _ n3 H3 g i3 (.tup ha hx) ?_
      have e : cutD ds lo hi = ds := by
        unfold cutD
        rw [← hx.length, hw.1, hw.2]
        simp [hx.length]
      have p : P n3 (.d (.tuple (cutD ds lo hi))) := p
      rw [e] at p
      exact p
    · obtain ⟨a', b', c'⟩ := C.new (.tup (cutV xs lo hi)) i3 hq
      exact k _ _ n3 _ (C.trans g a') b' (.tup c' ((dal_cut hx lo hi).mono (C.vwm a'))) p
end
end DC
set_option Elab.async false
set_option linter.all false
set_option maxRecDepth 100000
set_option maxHeartbeats 4000000
namespace DC
open PySem L2 Gd
set_option exponentiation.threshold 10000
/-- an integer between two bounds -/
def betw (d : PyData) (lo hi : Int) : Bool := match d with
  | .int i => decide (lo ≤ i) && decide (i ≤ hi)
  | _ => false
/-- an integer, no truth -/
def wholeD (d : PyData) : Bool := match d with
  | .int _ => true
  | _ => false
/-! ### where a thing is wrong as a plan -/
def bigGap : Int := 10 ^ 30
def badGap : Nat → List PyData → Option (List Int)
  | _, [] => none
  | i, d :: ds => if betw d 1 bigGap = true then badGap (i + 1) ds else some [1, (i : Int)]
def plcG : PyData → Option (List Int)
  | .tuple gs => if 1 ≤ gs.length ∧ gs.length ≤ 8 then badGap 0 gs else some [1]
  | _ => some [1]
def plc : PyData → Option (List Int)
  | .tuple [h, g] => if betw h 1 3 = true then plcG g else some [0]
  | _ => some []
def plD (p : List Int) : PyData := .tuple (p.map .int)
theorem badGap_step {gs : List PyData} {i : Nat} {d : PyData} (h : gs[i]? = some d) : badGap i (gs.drop i) = if betw d 1 bigGap = true then badGap (i + 1) (gs.drop (i + 1)) else some [1, (i : Int)] := by
  obtain ⟨hi, e⟩ := List.getElem?_eq_some_iff.mp h
  rw [List.drop_eq_getElem_cons hi, e]
  rfl
theorem plc_short {ds : List PyData} (h : ds.length ≠ 2) : plc (.tuple ds) = some [] := by
  match ds, h with
  | [], _ => rfl
  | [_], _ => rfl
  | [_, _], h => exact absurd rfl h
  | _ :: _ :: _ :: _, _ => rfl
theorem plc_kind {d : PyData} (h : ∀ ds, d ≠ .tuple ds) : plc d = some [] := by
  cases d with
  | tuple ds => exact absurd rfl (h ds)
  | _ => rfl
theorem plc_two (h g : PyData) : plc (.tuple [h, g]) = if betw h 1 3 = true then plcG g else some [0] := rfl
theorem plcG_kind {d : PyData} (h : ∀ ds, d ≠ .tuple ds) : plcG d = some [1] := by
  cases d with
  | tuple ds => exact absurd rfl (h ds)
  | _ => rfl
def planD (hi : Int) (gs : List Int) : PyData := .tuple [.int hi, .tuple (gs.map .int)]
theorem betw_int {d : PyData} {lo hi : Int} (h : betw d lo hi = true) : ∃ i, d = .int i ∧ lo ≤ i ∧ i ≤ hi := by
  cases d with
  | int i =>
    refine ⟨i, rfl, ?_⟩
    simpa [betw] using h
  | _ => exact Bool.noConfusion h
theorem badGap_none : ∀ {gs : List PyData} {i : Nat}, badGap i gs = none → ∃ ns : List Int, gs = ns.map .int ∧ ∀ g ∈ ns, 1 ≤ g ∧ g ≤ bigGap
  | [], _, _ => ⟨[], rfl, fun g h => by cases h⟩
  | d :: ds, i, h => by
    unfold badGap at h
    by_cases hb : betw d 1 bigGap = true
    · rw [if_pos hb] at h
      obtain ⟨ns, rfl, hn⟩ := badGap_none h
      obtain ⟨j, rfl, j1, j2⟩ := betw_int hb
      refine ⟨j :: ns, rfl, fun g hg => ?_⟩
      rcases List.mem_cons.mp hg with rfl | hg
      · exact ⟨j1, j2⟩
      · exact hn g hg
    · rw [if_neg hb] at h
      cases h
/-- a plan that is right, of so many hands and these gaps -/
structure Good (hi : Int) (gs : List Int) : Prop where
  h1 : 1 ≤ hi
  h3 : hi ≤ 3
  l1 : 1 ≤ gs.length
  l8 : gs.length ≤ 8
  all : ∀ g ∈ gs, 1 ≤ g ∧ g ≤ bigGap
theorem plc_right {d : PyData} (h : plc d = none) : ∃ hi gs, d = planD hi gs ∧ Good hi gs := by
  match d, h with
  | .tuple [a, g], h =>
    rw [plc_two] at h
    by_cases hb : betw a 1 3 = true
    · rw [if_pos hb] at h
      obtain ⟨j, rfl, j1, j2⟩ := betw_int hb
      match g, h with
      | .tuple gs, h =>
        have h' : (if 1 ≤ gs.length ∧ gs.length ≤ 8 then badGap 0 gs else some [1]) = none := h
        by_cases hl : 1 ≤ gs.length ∧ gs.length ≤ 8
        · rw [if_pos hl] at h'
          obtain ⟨ns, rfl, hn⟩ := badGap_none h'
          rw [List.length_map] at hl
          exact ⟨j, ns, rfl, j1, j2, hl.1, hl.2, hn⟩
        · rw [if_neg hl] at h'
          cases h'
      | .none, h => cases h
      | .bool _, h => cases h
      | .int _, h => cases h
      | .str _, h => cases h
      | .list _, h => cases h
      | .dict _, h => cases h
    · rw [if_neg hb] at h
      cases h
  | .tuple [], h => cases h
  | .tuple [_], h => cases h
  | .tuple (_ :: _ :: _ :: _), h => cases h
  | .none, h => cases h
  | .bool _, h => cases h
  | .int _, h => cases h
  | .str _, h => cases h
  | .list _, h => cases h
  | .dict _, h => cases h
theorem badGap_ok : ∀ {ns : List Int} {i : Nat}, (∀ g ∈ ns, 1 ≤ g ∧ g ≤ bigGap) → badGap i (ns.map .int) = none
  | [], _, _ => rfl
  | g :: r, i, h => by
    have h1 := h g List.mem_cons_self
    show (if betw (.int g) 1 bigGap = true then badGap (i + 1) (r.map .int) else some [1, (i : Int)]) = none
    have e : betw (.int g) 1 bigGap = true := by
      show (decide (1 ≤ g) && decide (g ≤ bigGap)) = true
      rw [decide_eq_true h1.1, decide_eq_true h1.2]
      rfl
    rw [if_pos e]
    exact badGap_ok fun x hx => h x (List.mem_cons_of_mem _ hx)
theorem Good.plc {hi : Int} {gs : List Int} (G : Good hi gs) : plc (planD hi gs) = none := by
  unfold planD
  rw [plc_two]
  have e : betw (.int hi) 1 3 = true := by
    show (decide (1 ≤ hi) && decide (hi ≤ 3)) = true
    rw [decide_eq_true G.h1, decide_eq_true G.h3]
    rfl
  rw [if_pos e]
  show (if 1 ≤ (gs.map PyData.int).length ∧ (gs.map PyData.int).length ≤ 8 then badGap 0 (gs.map .int) else some [1]) = none
  rw [List.length_map, if_pos ⟨G.l1, G.l8⟩]
  exact badGap_ok G.all

def iD : PyData → Int
  | .int i => i
  | _ => 0
/-! ### what is asked of an object's kind -/
def isTupD : PyData → Bool
  | .tuple _ => true
  | _ => false
def isIntD : PyData → Bool
  | .int _ => true
  | .bool _ => true
  | _ => false
def isBoolD : PyData → Bool
  | .bool _ => true
  | _ => false
def isListD : PyData → Bool
  | .list _ => true
  | _ => false
section
variable {C : Ctx} {E : XK} {X : XP} {n : Nat} {ρ : Dv} {K : PySem.W.Frag} {P : Nat → DVal → Prop} {p : Post}
theorem e_isTup {ta : TE} (h : EJ C E X n ρ ta fun n1 x => ∃ d, x = .d d ∧ P n1 (.d (.bool (isTupD d)))) : EJ C E X n ρ (tCB (rIsi K) (tCons ta (tCons (tC (.ty "tuple")) tNil))) P :=
  e_isi (h.imp fun n1 x ⟨d, ex, p⟩ => ⟨d, _, ex, kit_tuple d, by cases d <;> exact p⟩)
theorem e_isInt {ta : TE} (h : EJ C E X n ρ ta fun n1 x => ∃ d, x = .d d ∧ P n1 (.d (.bool (isIntD d)))) : EJ C E X n ρ (tCB (rIsi K) (tCons ta (tCons (tC (.ty "int")) tNil))) P :=
  e_isi (h.imp fun n1 x ⟨d, ex, p⟩ => ⟨d, _, ex, kit_int d, by cases d <;> exact p⟩)
theorem e_isBool {ta : TE} (h : EJ C E X n ρ ta fun n1 x => ∃ d, x = .d d ∧ P n1 (.d (.bool (isBoolD d)))) : EJ C E X n ρ (tCB (rIsi K) (tCons ta (tCons (tC (.ty "bool")) tNil))) P :=
  e_isi (h.imp fun n1 x ⟨d, ex, p⟩ => ⟨d, _, ex, kit_bool d, by cases d <;> exact p⟩)
theorem ite3 {b : Bool} {A B : Prop} (h1 : b = true → A) (h2 : b = false → B) : if b = true then A else B := by
  cases b with
  | true => exact h1 rfl
  | false => exact h2 rfl
theorem it_t {A B : Prop} (h : A) : if true = true then A else B := h
theorem it_f {A B : Prop} (h : B) : if false = true then A else B := h
/-- list(x) evaluates -/
theorem e_cmpN {ta tb : TE} {g : Int → Int → Bool} (h : EJ C E X n ρ ta fun n1 x => ∃ i, x = .d (.int i) ∧ EJ C E X n1 ρ tb fun n2 y => ∃ j, y = .d (.int j) ∧ P n2 (.d (.bool (g i j)))) : EJ C E X n ρ (tOp (rI0 fun i j => .bl (g i j)) ta tb) P := e_cmp h
end
/-- a def that can be called -/
structure Fd (P : Program) (w : World) (K : PySem.W.Frag) (mg : Str → Option Value) (base : Heap) (x : Str) (ps : List Str) (cx : CXT) (k : Nat) (s : SpD) : Prop where
  ex : ∃ (f : Addr) (fd : FuncData), mg x = some (.ref f) ∧ PySem.W.keepIn K (.ref f) = true ∧ Binds K fd ps [] ∧ FnOk P w K mg base cx k f fd ps (spG s)
end DC
set_option Elab.async false
set_option linter.all false
set_option maxRecDepth 100000
set_option maxHeartbeats 4000000
namespace DC
open PySem L2 Gd
section
variable {C : Ctx} {E : XK} {X : XP} {n : Nat} {ρ : Dv} {K : PySem.W.Frag} {P : Nat → DVal → Prop} {p : Post}
/-- a comprehension over things of one kind, each turn told by functions -/
theorem e_lcA {α : Type} {wi : TI} {g : TG} {tt : TT} {te : TE} {vs : List Nat} (as : List α) (emb : α → PyData) (c : α → Bool) (f : α → PyData)
    (h : IJ C E X n ρ wi fun n1 xs => xs = as.map emb ∧ as.length ≤ 5000 ∧ (∀ C', Le C C' → ∀ a ∈ as, ∃ sl ρ', (∀ j ∈ sl, j ∈ vs) ∧ GJ sl g (emb a) (wipeD ρ vs) ρ' ∧
      TJ C' E noX n1 ρ' tt fun n3 b => n3 = n1 ∧ b = c a ∧ (c a = true → EJ C' E noX n1 ρ' te fun n4 y => n4 = n1 ∧ y = .d (f a))) ∧ P n1 (.d (.list ((as.filter c).map f)))) : EJ C E X n ρ (tLc wi g tt te vs) P := by
  refine e_lc fun σ H R' I e x k => h σ H R' I e x fun J n' H' xs g1 i1 ⟨hx, hl, hs, hp⟩ it => k J n' H' xs g1 i1 ⟨by rw [hx, List.length_map]; exact hl, fun i n2 acc => n2 = n' ∧ acc = ((as.take i).filter c).map f, ⟨rfl, rfl⟩, ?_, ?_⟩ it
  · rintro C' le i y n2 acc hy ⟨rfl, rfl⟩
    rw [hx, List.getElem?_map] at hy
    cases ha : as[i]? with
    | none => rw [ha] at hy; cases hy
    | some a =>
      rw [ha] at hy
      cases hy
      obtain ⟨sl, ρ', h1, h2, h3⟩ := hs C' le a (List.mem_of_getElem? ha)
      refine ⟨sl, ρ', h1, h2, h3.imp fun n3 b ⟨e1, e2, e3⟩ => ?_⟩
      subst e1 e2
      obtain ⟨hi, ea⟩ := List.getElem?_eq_some_iff.mp ha
      have tk : as.take (i + 1) = as.take i ++ [a] := by rw [List.take_succ, ha]; rfl
      cases hc : c a with
      | true =>
        refine it_t ?_
        refine (e3 hc).imp fun n4 y ⟨e4, ey⟩ => ⟨f a, ey, e4, ?_⟩
        rw [tk, List.filter_append, List.map_append]
        simp [hc]
      | false =>
        refine it_f ⟨rfl, ?_⟩
        rw [tk, List.filter_append, List.map_append]
        simp [hc]
  · rintro n2 acc _ ⟨rfl, rfl⟩
    rw [hx, List.length_map, List.take_length]
    exact hp
/-- .. without a test -/
theorem e_lcM {α : Type} {wi : TI} {g : TG} {te : TE} {vs : List Nat} (as : List α) (emb : α → PyData) (f : α → PyData)
    (h : IJ C E X n ρ wi fun n1 xs => xs = as.map emb ∧ as.length ≤ 5000 ∧ (∀ C', Le C C' → ∀ a ∈ as, ∃ sl ρ', (∀ j ∈ sl, j ∈ vs) ∧ GJ sl g (emb a) (wipeD ρ vs) ρ' ∧
      EJ C' E noX n1 ρ' te fun n4 y => n4 = n1 ∧ y = .d (f a)) ∧ P n1 (.d (.list (as.map f)))) : EJ C E X n ρ (tLc wi g tYes te vs) P :=
  e_lcA as emb (fun _ => true) f fun σ H R' I e x k => h σ H R' I e x fun J n' H' xs g1 i1 ⟨hx, hl, hs, hp⟩ it => k J n' H' xs g1 i1 ⟨hx, hl, fun C' le a ha => by
    obtain ⟨sl, ρ', h1, h2, h3⟩ := hs C' le a ha
    exact ⟨sl, ρ', h1, h2, t_yes ⟨rfl, rfl, fun _ => h3⟩⟩, by rw [List.filter_eq_self.mpr fun _ _ => rfl]; exact hp⟩ it
theorem enD_map {α : Type} (f : α → PyData) (as : List α) : enD (as.map f) = as.zipIdx.map fun p => .tuple [.int (p.2 : Nat), f p.1] := by
  unfold enD
  rw [List.zipIdx_map, List.map_map]
  rfl
theorem zipD_map {α β : Type} (f : α → PyData) (g : β → PyData) (as : List α) (bs : List β) : zipD (as.map f) (bs.map g) = (as.zip bs).map fun p => .tuple [f p.1, g p.2] := by
  unfold zipD
  rw [List.zip_map, List.map_map]
  rfl
theorem rgD_map (lo : Int) (k : Nat) : rgD lo k = (List.range k).map fun i => .int (lo + (i : Nat)) := rfl
end
end DC
set_option Elab.async false
set_option linter.all false
set_option maxRecDepth 100000
set_option maxHeartbeats 4000000
namespace DC
open PySem L2 Gd
/-! ### lists of ints in order -/
def insL (x : List Int) : List (List Int) → List (List Int)
  | [] => [x]
  | y :: r => if HT.lexLt y x = true then y :: insL x r else x :: y :: r
def sortL : List (List Int) → List (List Int)
  | [] => []
  | x :: r => insL x (sortL r)
theorem insL_perm (x : List Int) : ∀ l, (insL x l).Perm (x :: l)
  | [] => .refl _
  | y :: r => by
    unfold insL
    split
    · exact ((insL_perm x r).cons y).trans (.swap x y r)
    · exact .refl _
theorem sortL_perm : ∀ l, (sortL l).Perm l
  | [] => .refl _
  | x :: r => (insL_perm x _).trans ((sortL_perm r).cons x)
abbrev SrtL (l : List (List Int)) : Prop := l.Pairwise fun p q => HT.lexLt q p = false
theorem swoL : SrtO.Swo HT.lexLt := NtL.swo_lexL (fun x : List Int => x)
theorem insL_srt (x : List Int) : ∀ {l}, SrtL l → SrtL (insL x l)
  | [], _ => List.pairwise_singleton _ _
  | y :: r, h => by
    obtain ⟨h1, h2⟩ := List.pairwise_cons.mp h
    unfold insL
    split
    · next e =>
      refine List.pairwise_cons.mpr ⟨fun z hz => ?_, insL_srt x h2⟩
      rcases List.mem_cons.mp ((insL_perm x r).mem_iff.mp hz) with rfl | hz
      · exact swoL.asym _ _ e
      · exact h1 z hz
    · next e =>
      have e' : HT.lexLt y x = false := by simpa using e
      refine List.pairwise_cons.mpr ⟨fun z hz => ?_, h⟩
      rcases List.mem_cons.mp hz with rfl | hz
      · exact e'
      · exact swoL.tr x y z e' (h1 z hz)
theorem sortL_srt : ∀ l, SrtL (sortL l)
  | [] => List.Pairwise.nil
  | x :: r => insL_srt x (sortL_srt r)
theorem lex_eq : ∀ {a b : List Int}, HT.lexLt a b = false → HT.lexLt b a = false → a = b
  | [], [], _, _ => rfl
  | [], y :: ys, h, _ => by rw [HT.lexLt_nil_cons] at h; cases h
  | x :: xs, [], _, h => by rw [HT.lexLt_nil_cons] at h; cases h
  | x :: xs, y :: ys, h1, h2 => by
    rw [HT.lexLt_cons] at h1 h2
    by_cases e : x = y
    · subst e
      rw [if_pos rfl] at h1 h2
      rw [lex_eq h1 h2]
    · rw [if_neg e] at h1
      rw [if_neg (fun q => e q.symm)] at h2
      have a := of_decide_eq_false h1
      have b := of_decide_eq_false h2
      omega
theorem srt_uniq : ∀ {l m : List (List Int)}, SrtL l → SrtL m → l.Perm m → l = m
  | [], m, _, _, p => (List.Perm.nil_eq p)
  | x :: r, [], _, _, p => absurd p.length_eq (by simp)
  | x :: r, y :: s, hl, hm, p => by
    obtain ⟨h1, h2⟩ := List.pairwise_cons.mp hl
    obtain ⟨g1, g2⟩ := List.pairwise_cons.mp hm
    have e : x = y := by
      rcases List.mem_cons.mp (p.mem_iff.mp List.mem_cons_self) with e | hx
      · exact e
      · rcases List.mem_cons.mp (p.mem_iff.mpr (List.mem_cons_self (a := y) (l := s))) with e | hy
        · exact e.symm
        · exact lex_eq (g1 x hx) (h1 y hy)
    subst e
    rw [srt_uniq h2 g2 (List.Perm.cons_inv p)]
def tD (ns : List Int) : PyData := .tuple (ns.map .int)
def kOf (H : Hp) (t : Addr) : List Int := match H t with
  | some (.tup ws) => ws.map fun | .int i => i | _ => 0
  | _ => []
theorem ws_ints : ∀ ns : List Int, ((ns.map V.int).map fun | .int i => i | _ => 0) = ns
  | [] => rfl
  | n :: r => by rw [List.map_cons, List.map_cons, ws_ints r]
theorem dal_tups {H : Hp} : ∀ {xs : List V} {L : List (List Int)}, DaL H xs (L.map tD) → ∃ ts : List Addr, xs = ts.map V.ref ∧ ts.map (kOf H) = L ∧ ∀ t ∈ ts, H t = some (.tup ((kOf H t).map V.int))
  | _, [], .nil => ⟨[], rfl, rfl, fun t h => by cases h⟩
  | _, ns :: L, .cons h r => by
    obtain ⟨a, ws, rfl, ha, hw⟩ := da_tuple h
    obtain ⟨ts, rfl, h2, h3⟩ := dal_tups r
    have e := dal_ints hw
    subst e
    have hk : kOf H a = ns := by
      unfold kOf
      rw [ha]
      exact ws_ints ns
    refine ⟨a :: ts, rfl, by rw [List.map_cons, hk, h2], fun t ht => ?_⟩
    rcases List.mem_cons.mp ht with rfl | ht
    · rw [hk]; exact ha
    · exact h3 t ht
theorem dal_of_tups {H : Hp} : ∀ (ts : List Addr), (∀ t ∈ ts, H t = some (.tup ((kOf H t).map V.int))) → DaL H (ts.map V.ref) ((ts.map (kOf H)).map tD)
  | [], _ => .nil
  | t :: ts, h => .cons (.tup (h t List.mem_cons_self) (da_ints' _)) (dal_of_tups ts fun u hu => h u (List.mem_cons_of_mem _ hu))
where da_ints' {H : Hp} : ∀ ns : List Int, DaL H (ns.map V.int) (ns.map .int)
  | [] => .nil
  | n :: r => .cons (.int n) (da_ints' r)
section
variable {C : Ctx} {E : XK} {X : XP} {n : Nat} {ρ : Dv} {K : PySem.W.Frag} {P : Nat → DVal → Prop} {p : Post}
theorem e_sortedTL {ta : TE} (h : EJ C E X n ρ ta fun n1 x => ∃ L : List (List Int), x = .d (.list (L.map tD)) ∧ L.head? = some [] ∧ P n1 (.d (.list ((sortL L).map tD)))) : EJ C E X n ρ (tCB (rSortedTL K) (tCons ta tNil)) P :=
  e_cb (a_cons (h.imp fun n1 x ⟨L, ex, hh, p⟩ => a_nil fun H1 vs Q I r k => by
    subst ex
    obtain ⟨v, rfl, rv⟩ := repL1 r
    obtain ⟨a, xs, rfl, ha, hx⟩ := da_list rv
    obtain ⟨ts, rfl, hk, ht⟩ := dal_tups hx
    refine ⟨a, ts, kOf (C.vw H1), rfl, SqL.of (C.sub _ _ ha), fun t q => C.sub _ _ (ht t q), ?_, fun ts' p' hp hs hn => ?_⟩
    · cases ts with
      | nil => rw [← hk] at hh; cases hh
      | cons t0 tr =>
        rw [← hk] at hh
        exact ⟨t0, tr, rfl, by simpa using hh⟩
    · have e : ts'.map (kOf (C.vw H1)) = sortL L := srt_uniq (List.pairwise_map.mpr hs) (sortL_srt L) ((hp.map _).trans (by rw [hk]; exact (sortL_perm L).symm))
      obtain ⟨a', b', c'⟩ := C.new (.lst (ts'.map V.ref)) I hn
      refine k _ _ _ a' b' (.lst c' ?_) p
      have q := dal_of_tups (H := C.vw H1) ts' fun t m => ht t (hp.mem_iff.mp m)
      rw [e] at q
      exact q.mono (C.vwm a')))
end
end DC
set_option Elab.async false
set_option linter.all false
set_option maxRecDepth 100000
set_option maxHeartbeats 2000000
/-! rules that name the frame K itself -/
namespace DC
open PySem L2 Gd
section
variable {X : Cx} {K : PySem.W.Frag}
theorem op_inK (h : X.K = K) : OpR X (compareOp .In) (rIn K false) := h ▸ op_in_seq
theorem op_notInK (h : X.K = K) : OpR X (compareOp .NotIn) (rIn K true) := h ▸ op_notIn_seq
theorem op_eqDK (h : X.K = K) (hu : X.A.units + 64 < cLine) : OpR X (compareOp .Eq) (rEqD K) := h ▸ op_eqD hu
theorem op_neDK (h : X.K = K) (hu : X.A.units + 64 < cLine) : OpR X (compareOp .NotEq) (rNeD K) := h ▸ op_neD hu
theorem op_catAK (h : X.K = K) : OpR X (binaryOp .Add) (rCatA K) := h ▸ op_catA
theorem ix_tupK (h : X.K = K) : IxR X (rIxT K) := h ▸ ix_tup
theorem ix_listK (h : X.K = K) : IxR X (rIxL K) := h ▸ ix_list
theorem sl_tupAK (h : X.K = K) : SlR X (rSlA K) := h ▸ sl_tupA
theorem call_isiK' (h : X.K = K) : CallR X (.builtin "isinstance") (rIsi K) := h ▸ call_isi
theorem call_lenK (h : X.K = K) : CallR X (.builtin "len") (fun xs H Q => ∃ p ys, xs = [.ref p] ∧ (SqL K H p ys ∨ SqT K H p ys) ∧ Q (.int ys.length) H) := h ▸ call_len_seq
theorem call_listK (h : X.K = K) : CallR X (.type "list") (fun xs H Q => ∃ p ys, xs = [.ref p] ∧ (SqL K H p ys ∨ SqT K H p ys) ∧ ∀ l, H l = none → Q (.ref l) (upd H l (.lst ys))) := h ▸ call_list_of
theorem call_tupleK (h : X.K = K) : CallR X (.type "tuple") (fun xs H Q => ∃ p ys, xs = [.ref p] ∧ ((SqL K H p ys ∧ ∀ l, H l = none → Q (.ref l) (upd H l (.tup ys))) ∨ (SqT K H p ys ∧ Q (.ref p) H))) := h ▸ call_tuple_of
theorem cr_allK (h : X.K = K) (hc : X.calm = true) : CallR X (.builtin "all") (rAll K) := h ▸ cr_all hc
theorem cr_anyK (h : X.K = K) (hc : X.calm = true) : CallR X (.builtin "any") (rAny K) := h ▸ cr_any hc
theorem cr_sortedTLK (h : X.K = K) (hu : X.A.units + 64 < cLine) : CallR X (.builtin "sorted") (rSortedTL K) := h ▸ cr_sortedTL hu
theorem pi_listK {tg l : Expr} {tl : TE} (h : X.K = K) (he : PE X l tl) : PI X tg l (iList K tl) := h ▸ pi_list he
theorem pi_tupK {tg l : Expr} {tl : TE} (h : X.K = K) (he : PE X l tl) : PI X tg l (iTup K tl) := h ▸ pi_tup he
end
end DC
set_option Elab.async false
set_option linter.all false
set_option maxRecDepth 100000
set_option maxHeartbeats 2000000
/-! enumerate(zip(t, u)), t and u tuples, the pairs held -/
namespace EZ
open PySem PySem.Spec RZ PySem.W
open Sem (wp)
/-- a zip as it stands: f0, f1 tell of the tuple that it gave last -/
def zObj (f0 : Value) (f1 : Bool) (TI TO : Addr) : Obj := { cls := .type "zip", data := .fields #[f0, .bool f1, .bool false, .ref TI, .ref TO] }
structure ZAt (h : Heap) (z TI TO i1 i2 l1 l2 : Addr) (k : Nat) : Prop where
  zip : ∃ f0 f1, (f0 = Value.none ∨ ∃ T : Addr, f0 = rawInt T) ∧ h.get? z = some (zObj f0 f1 TI TO)
  ti : IsPair h TI (.ref i1) (.ref i2)
  to : ∃ a b, IsPair h TO a b
  t1 : h.IsTupleIter i1 l1 k
  t2 : h.IsTupleIter i2 l2 k
/-- what is left as it was but at the zip's own objects -/
def Rest (z TO i1 i2 : Addr) (h h' : Heap) : Prop := ∀ c o, c ≠ z → c ≠ TO → c ≠ i1 → c ≠ i2 → h.get? c = some o → h'.get? c = some o
theorem Rest.sub {z TO i1 i2 x : Addr} {h h1 h2 : Heap} (r : Rest z TO i1 i2 h h1) (s : Heap.SameBut x h1 h2) (hx : x = z ∨ x = TO ∨ x = i1 ∨ x = i2) : Rest z TO i1 i2 h h2 := fun c o a b d e q =>
  s.extBut c o (by rcases hx with rfl | rfl | rfl | rfl <;> assumption) (r c o a b d e q)
theorem tupAt {h h' : Heap} {l : Addr} {xs : Array Value} (t : h.IsTuple l xs) (k : ∀ o, h.get? l = some o → h'.get? l = some o) : h'.IsTuple l xs := by
  obtain ⟨o, e, r⟩ := t
  exact ⟨o, k o e, r⟩
section
variable {prog : Program} {w : World} {A : Around} {E : Value → Shared → Prop} {s : Shared}
theorem dead {a : Addr} {Q : Option Obj → Shared → Prop} (ho : s.heap.get? a = none) (h : Q none s) : wpAny (model prog w) A (loadIfAlive a) Q E s := by
  have h' : Q (s.heap.get? a) s := by rw [ho]; exact h
  exact fun _ _ _ => h'
/-- whether its own tuple may be taken again: either way -/
theorem free_or {z TI TO : Addr} {f0 : Value} {f1 : Bool} {Q : Bool → Shared → Prop} (hf : f0 = .none ∨ ∃ T : Addr, f0 = rawInt T) (hz : s.heap.get? z = some (zObj f0 f1 TI TO)) (h1 : Q true s)
    (h2 : ∀ h' g1, (∃ T : Addr, f0 = rawInt T) → h'.get? z = some (zObj f0 g1 TI TO) → Heap.SameBut z s.heap h' → Q false { s with heap := h' }) : wpAny (model prog w) A (Builtin.SmallTypes.ownedTupleIsFree (.ref z)) Q E s := by
  unfold Builtin.SmallTypes.ownedTupleIsFree
  refine wpAny_bind (wpAny_field hz rfl (x := f0) rfl ?_)
  rcases hf with rfl | ⟨T, rfl⟩
  · exact wpAny_pure h1
  · show wpAny _ _ (loadIfAlive ((T : Int).toNat) >>= _) _ _ _
    rw [Int.toNat_natCast]
    refine wpAny_bind ?_
    cases q : s.heap.get? T with
    | none => exact dead q (wpAny_pure h1)
    | some oT =>
      refine kdx_alive q ?_
      simp only [Option.isNone_some, Bool.false_eq_true, if_false]
      refine wpAny_bind (wpAny_field hz rfl (x := .bool f1) rfl ?_)
      cases f1 with
      | true =>
        rw [if_neg (by intro c; cases c)]
        exact wpAny_pure (h2 s.heap true ⟨T, rfl⟩ hz (Heap.SameBut.refl _ _))
      | false =>
        rw [if_pos (by rfl)]
        exact wpAny_bind (wpAny_setField_rec hz (by simp) fun h' hz' sb => wpAny_pure (h2 h' true ⟨T, rfl⟩ hz' sb))
theorem args_zip (z : Addr) : argsOk "zip.__next__" ⟨[.ref z], []⟩ := F.args_zip_next_1 _
/-- the next pair, new -/
theorem zip_item {z TI TO i1 i2 l1 l2 : Addr} {k : Nat} {xs ys : Array Value} {x y : Value} {Q : Value → Shared → Prop} (D : ZipApart z TI TO i1 i2 l1 l2) (Z : ZAt s.heap z TI TO i1 i2 l1 l2 k)
    (hl1 : s.heap.IsTuple l1 xs) (hl2 : s.heap.IsTuple l2 ys) (hx : xs[k]? = some x) (hy : ys[k]? = some y)
    (hQ : ∀ h', ZAt h' z TI TO i1 i2 l1 l2 (k + 1) → IsPair h' s.heap.objs.size x y → h'.objs.size = s.heap.objs.size + 1 → Rest z TO i1 i2 s.heap h' → Q (.ref s.heap.objs.size) { s with heap := h' }) :
    wpAny (model prog w) A (Builtin.SmallTypes.nextOf (.ref z)) Q E s := by
  obtain ⟨⟨f0, f1, hf, hz⟩, hTI, ⟨a, b, hTO⟩, h1, h2⟩ := Z
  have hT : s.TypeIs (.ref z) "zip" := ⟨_, hz, rfl⟩
  unfold Builtin.SmallTypes.nextOf
  refine wpAny_bind (wpAny_callSpecial?_slot (name := Str.ofString "__next__") hT F.slot_zip_next (wpAny_call_entry F.slot_zip_next hT F.entry_zip_next ?_ (args_zip z)))
  show wpAny _ _ (field (.ref z) 2 >>= _) _ _ _
  refine wpAny_bind (wpAny_field hz rfl (x := .bool false) rfl ?_)
  show wpAny _ _ (field (.ref z) 3 >>= _) _ _ _
  refine wpAny_bind (wpAny_field hz rfl (x := .ref TI) rfl (wpAny_bind (wpAny_seqItems hTI rfl ?_)))
  show wpAny _ _ (Builtin.SmallTypes.ownedTupleIsFree (.ref z) >>= _) _ _ _
  refine wpAny_bind (free_or hf hz ?_ fun g0 g1 hT0 hz0 sb0 => ?_)
  · -- its own tuple once more
    simp only [if_true]
    refine wpAny_bind (wpAny_rule (wpAny_bind (wpAny_field hz rfl (x := .ref TO) rfl ?_)))
    refine wpAny_bind (wpAny_setField_rec hz (by simp) fun g0 hz0 sb0 => ?_)
    have r0 : Rest z TO i1 i2 s.heap g0 := Rest.sub (fun _ _ _ _ _ _ q => q) sb0 (.inl rfl)
    refine wpAny_bind ?_
    simp only [List.zipIdx_cons, List.zipIdx_nil, List.forIn_cons, List.forIn_nil]
    refine wpAny_bind (wpAny_bind (wpAny_onRaise ?_))
    show wpAny _ _ (Builtin.SmallTypes.nextOf (.ref i1) >>= _) _ _ _
    refine wpAny_bind (nextOf_tuple_item (s := { s with heap := g0 }) (h1.extBut sb0.extBut D.i1z) (hl1.extBut sb0.extBut D.l1z) hx fun g1 t1 sb1 => wpAny_pure ?_)
    have T1 : IsPair g1 TO a b := sb1.extBut _ _ D.TOi1 (sb0.extBut _ _ D.TOz hTO)
    refine wpAny_bind (wpAny_seqItems T1 rfl (wpAny_bind (wpAny_updateSeq_pair T1 fun g2 T2 sb2 => wpAny_bind (wpAny_letGo (wpAny_pure ?_)))))
    replace T2 : IsPair g2 TO x b := T2
    refine wpAny_bind (wpAny_bind (wpAny_onRaise ?_))
    show wpAny _ _ (Builtin.SmallTypes.nextOf (.ref i2) >>= _) _ _ _
    have h22 : g2.IsTupleIter i2 l2 k := ((h2.extBut sb0.extBut D.i2z).extBut sb1.extBut D.i12.symm).extBut sb2.extBut D.TOi2.symm
    have hl22 : g2.IsTuple l2 ys := ((hl2.extBut sb0.extBut D.l2z).extBut sb1.extBut D.l2i1).extBut sb2.extBut D.l2TO
    refine wpAny_bind (nextOf_tuple_item (s := { s with heap := g2 }) h22 hl22 hy fun g3 t2 sb3 => wpAny_pure ?_)
    have T3 : IsPair g3 TO x b := sb3.extBut _ _ D.TOi2 T2
    refine wpAny_bind (wpAny_seqItems T3 rfl (wpAny_bind (wpAny_updateSeq_pair T3 fun g4 T4 sb4 => wpAny_bind (wpAny_letGo (wpAny_pure (wpAny_pure ?_))))))
    replace T4 : IsPair g4 TO x y := T4
    refine wpAny_bind (wpAny_seqItems T4 rfl (wpAny_bind (wpAny_newTuple ?_)))
    have r4 : Rest z TO i1 i2 s.heap g4 := (((r0.sub sb1 (.inr (.inr (.inl rfl)))).sub sb2 (.inr (.inl rfl))).sub sb3 (.inr (.inr (.inr rfl)))).sub sb4 (.inr (.inl rfl))
    have sz : g4.objs.size = s.heap.objs.size := by rw [sb4.1, sb3.1, sb2.1, sb1.1, sb0.1]
    have z4 : g4.get? z = some (zObj .ellipsis f1 TI TO) := sb4.extBut _ _ D.TOz.symm (sb3.extBut _ _ D.i2z.symm (sb2.extBut _ _ D.TOz.symm (sb1.extBut _ _ D.i1z.symm hz0)))
    have a1 : g4.IsTupleIter i1 l1 (k + 1) := ((t1.extBut sb2.extBut D.TOi1.symm).extBut sb3.extBut D.i12).extBut sb4.extBut D.TOi1.symm
    have a2 : g4.IsTupleIter i2 l2 (k + 1) := t2.extBut sb4.extBut D.TOi2.symm
    have aTI : IsPair g4 TI (.ref i1) (.ref i2) := r4 _ _ D.TIz D.TITO D.TIi1 D.TIi2 hTI
    show wpAny _ _ (Builtin.SmallTypes.ownedTupleHandOut (.ref z) (.ref g4.objs.size) >>= _) _ _ _
    refine wpAny_bind ?_
    unfold Builtin.SmallTypes.ownedTupleHandOut
    have lz : z < g4.objs.size := Heap.lt_size z4
    refine wpAny_bind (wpAny_setField_rec (Heap.get?_push_of_some _ z4) (by simp) fun g6 hz6 sb6 => ?_)
    refine wpAny_setField_rec hz6 (by simp) fun g7 hz7 sb7 => ?_
    have up : ∀ c o, c ≠ z → g4.get? c = some o → g7.get? c = some o := fun c o cz e => sb7.extBut _ _ cz (sb6.extBut _ _ cz (Heap.get?_push_of_some _ e))
    have pT : IsPair g7 g4.objs.size x y := sb7.extBut _ _ (Nat.ne_of_gt lz) (sb6.extBut _ _ (Nat.ne_of_gt lz) (Heap.get?_push_size _ rfl))
    have s7 : g7.objs.size = g4.objs.size + 1 := by rw [sb7.1, sb6.1, Heap.size_push]
    refine wpAny_pure ⟨_, rfl, wpAny_pure ?_⟩
    show Q (.ref g4.objs.size) { s with heap := g7 }
    rw [sz] at pT s7 ⊢
    exact hQ g7 ⟨⟨_, _, .inr ⟨_, rfl⟩, hz7⟩, up _ _ D.TIz aTI, ⟨_, _, up _ _ D.TOz T4⟩, a1.at fun o q => up _ _ D.i1z q, a2.at fun o q => up _ _ D.i2z q⟩ pT s7 fun c o c1 c2 c3 c4 q => up c o c1 (r4 c o c1 c2 c3 c4 q)
  · -- the last one is still held
    simp only [Bool.false_eq_true, if_false]
    have r0 : Rest z TO i1 i2 s.heap g0 := Rest.sub (fun _ _ _ _ _ _ q => q) sb0 (.inl rfl)
    refine wpAny_bind ?_
    rw [← Array.forIn_toList]
    simp only [List.forIn_cons, List.forIn_nil]
    refine wpAny_bind (wpAny_bind (wpAny_holding ?_))
    show wpAny _ _ (Builtin.SmallTypes.nextOf (.ref i1) >>= _) _ _ _
    refine wpAny_bind (nextOf_tuple_item (s := { s with heap := g0 }) (h1.extBut sb0.extBut D.i1z) (hl1.extBut sb0.extBut D.l1z) hx fun g1 t1 sb1 => wpAny_pure (wpAny_pure ?_))
    refine wpAny_bind (wpAny_bind (wpAny_holding ?_))
    show wpAny _ _ (Builtin.SmallTypes.nextOf (.ref i2) >>= _) _ _ _
    refine wpAny_bind (nextOf_tuple_item (s := { s with heap := g1 }) ((h2.extBut sb0.extBut D.i2z).extBut sb1.extBut D.i12.symm) ((hl2.extBut sb0.extBut D.l2z).extBut sb1.extBut D.l2i1) hy fun g2 t2 sb2 => wpAny_pure (wpAny_pure (wpAny_pure ?_)))
    show wpAny _ _ (newTuple [x, y] >>= _) _ _ _
    refine wpAny_bind (wpAny_newTuple (wpAny_pure ⟨_, rfl, wpAny_pure ?_⟩))
    have r2 : Rest z TO i1 i2 s.heap g2 := (r0.sub sb1 (.inr (.inr (.inl rfl)))).sub sb2 (.inr (.inr (.inr rfl)))
    have sz : g2.objs.size = s.heap.objs.size := by rw [sb2.1, sb1.1, sb0.1]
    have z2 := sb2.extBut _ _ D.i2z.symm (sb1.extBut _ _ D.i1z.symm hz0)
    have tO : IsPair g2 TO a b := sb2.extBut _ _ D.TOi2 (sb1.extBut _ _ D.TOi1 (sb0.extBut _ _ D.TOz hTO))
    have pT : IsPair (g2.push { cls := .type "tuple", data := .seq #[x, y] }) g2.objs.size x y := Heap.get?_push_size _ rfl
    have s7 : (g2.push { cls := .type "tuple", data := .seq #[x, y] }).objs.size = g2.objs.size + 1 := Heap.size_push ..
    show Q (.ref g2.objs.size) { s with heap := g2.push { cls := .type "tuple", data := .seq #[x, y] } }
    rw [sz] at pT s7 ⊢
    exact hQ _ ⟨⟨_, _, .inr hT0, Heap.get?_push_of_some _ z2⟩, Heap.get?_push_of_some _ (r2 _ _ D.TIz D.TITO D.TIi1 D.TIi2 hTI), ⟨_, _, Heap.get?_push_of_some _ tO⟩, (t1.extBut sb2.extBut D.i12).at fun o q => Heap.get?_push_of_some _ q, t2.at fun o q => Heap.get?_push_of_some _ q⟩ pT s7 fun c o c1 c2 c3 c4 q => Heap.get?_push_of_some _ (r2 c o c1 c2 c3 c4 q)
/-- the first one is at its end -/
theorem zip_end {z TI TO i1 i2 l1 l2 : Addr} {k : Nat} {xs : Array Value} {Q : Value → Shared → Prop} (hh : A.handled = none) (D : ZipApart z TI TO i1 i2 l1 l2) (Z : ZAt s.heap z TI TO i1 i2 l1 l2 k)
    (hl1 : s.heap.IsTuple l1 xs) (hx : xs[k]? = none) (hE : ∀ h' e, Rest z TO i1 i2 s.heap h' → (∃ o, h'.get? e = some o ∧ o.cls = .type "StopIteration") → E (.ref e) { s with heap := h' }) :
    wpAny (model prog w) A (Builtin.SmallTypes.nextOf (.ref z)) Q E s := by
  obtain ⟨⟨f0, f1, hf, hz⟩, hTI, ⟨a, b, hTO⟩, h1, h2⟩ := Z
  have hT : s.TypeIs (.ref z) "zip" := ⟨_, hz, rfl⟩
  have hh1 : A.in1.handled = none := hh
  unfold Builtin.SmallTypes.nextOf
  refine wpAny_bind (wpAny_callSpecial?_slot (name := Str.ofString "__next__") hT F.slot_zip_next (wpAny_call_entry F.slot_zip_next hT F.entry_zip_next ?_ (args_zip z)))
  show wpAny _ _ (field (.ref z) 2 >>= _) _ _ _
  refine wpAny_bind (wpAny_field hz rfl (x := .bool false) rfl ?_)
  show wpAny _ _ (field (.ref z) 3 >>= _) _ _ _
  refine wpAny_bind (wpAny_field hz rfl (x := .ref TI) rfl (wpAny_bind (wpAny_seqItems hTI rfl ?_)))
  show wpAny _ _ (Builtin.SmallTypes.ownedTupleIsFree (.ref z) >>= _) _ _ _
  refine wpAny_bind (free_or hf hz ?_ fun g0 g1 hT0 hz0 sb0 => ?_)
  · simp only [if_true]
    refine wpAny_bind (wpAny_rule (wpAny_bind (wpAny_field hz rfl (x := .ref TO) rfl ?_)))
    refine wpAny_bind (wpAny_setField_rec hz (by simp) fun g0 hz0 sb0 => ?_)
    have r0 : Rest z TO i1 i2 s.heap g0 := Rest.sub (fun _ _ _ _ _ _ q => q) sb0 (.inl rfl)
    refine wpAny_bind ?_
    simp only [List.zipIdx_cons, List.zipIdx_nil, List.forIn_cons, List.forIn_nil]
    refine wpAny_bind (wpAny_bind (wpAny_onRaise ?_))
    show wpAny _ _ (Builtin.SmallTypes.nextOf (.ref i1) >>= _) _ _ _
    refine wpAny_bind (nextOf_tuple_end (s := { s with heap := g0 }) hh1 (h1.extBut sb0.extBut D.i1z) (hl1.extBut sb0.extBut D.l1z) hx fun g1 e eb he => ?_)
    obtain ⟨oe, hoe, hce⟩ := he
    have z1 := eb _ _ D.i1z.symm hz0
    have hez : e ≠ z := fun q => by
      subst q
      rw [z1] at hoe
      cases hoe
      exact absurd (Value.type.inj hce) (by decide)
    refine wpAny_setField_rec z1 (by simp) fun g2 _ sb2 => hE g2 e (fun c o c1 c2 c3 c4 q => sb2.extBut _ _ c1 (eb _ _ c3 (r0 c o c1 c2 c3 c4 q))) ⟨oe, sb2.extBut _ _ hez hoe, hce⟩
  · simp only [Bool.false_eq_true, if_false]
    have r0 : Rest z TO i1 i2 s.heap g0 := Rest.sub (fun _ _ _ _ _ _ q => q) sb0 (.inl rfl)
    refine wpAny_bind ?_
    rw [← Array.forIn_toList]
    simp only [List.forIn_cons, List.forIn_nil]
    refine wpAny_bind (wpAny_bind (wpAny_holding ?_))
    show wpAny _ _ (Builtin.SmallTypes.nextOf (.ref i1) >>= _) _ _ _
    refine wpAny_bind (nextOf_tuple_end (s := { s with heap := g0 }) hh1 (h1.extBut sb0.extBut D.i1z) (hl1.extBut sb0.extBut D.l1z) hx fun g1 e eb he => ?_)
    exact hE g1 e (fun c o c1 c2 c3 c4 q => eb _ _ c3 (r0 c o c1 c2 c3 c4 q)) he
/-- enumerate over it: the pair at size, the outer tuple behind it -/
theorem en_item {e z TI TO i1 i2 l1 l2 : Addr} {k : Nat} {xs ys : Array Value} {x y old : Value} {Q : Option Value → Shared → Prop} (D : ZipApart z TI TO i1 i2 l1 l2) (Z : ZAt s.heap z TI TO i1 i2 l1 l2 k)
    (he : IsEnum s.heap e z (k : Nat) old) (n1 : e ≠ z) (n2 : e ≠ TO) (n3 : e ≠ i1) (n4 : e ≠ i2)
    (hl1 : s.heap.IsTuple l1 xs) (hl2 : s.heap.IsTuple l2 ys) (hx : xs[k]? = some x) (hy : ys[k]? = some y)
    (hQ : ∀ hA h' tk, ZAt hA z TI TO i1 i2 l1 l2 (k + 1) → IsPair hA s.heap.objs.size x y → hA.objs.size = s.heap.objs.size + 1 → Rest z TO i1 i2 s.heap hA → IsEnumOut h' e z ((k : Int) + 1) (.ref s.heap.objs.size) (s.heap.objs.size + 1) →
      h'.get? (s.heap.objs.size + 1) = some { cls := .type "tuple", data := .seq #[.int (k : Nat) tk, .ref s.heap.objs.size] } → h'.objs.size = s.heap.objs.size + 2 → (∀ c o, c ≠ e → hA.get? c = some o → h'.get? c = some o) → Q (some (.ref (s.heap.objs.size + 1))) { s with heap := h', toks := tk + 1 }) :
    wpAny (model prog w) A (pyNext (.ref e)) Q E s := by
  have hT : s.TypeIs (.ref e) "enumerate" := ⟨_, he, rfl⟩
  unfold pyNext
  refine wpAny_bind (wpAny_attempt (wpAny_callSpecial?_slot (name := Str.ofString "__next__") hT F.slot_enumerate_next (wpAny_call_entry F.slot_enumerate_next hT F.entry_enumerate_next ?_ (F.args_enumerate_next_1 _))))
  show wpAny _ _ (field (.ref e) 2 >>= _) _ _ _
  refine wpAny_bind (wpAny_field he rfl (x := .ref z) rfl ?_)
  refine wpAny_bind (zip_item D Z hl1 hl2 hx hy fun hA ZA pA sA rA => ?_)
  have eA : IsEnum hA e z (k : Nat) old := rA _ _ n1 n2 n3 n4 he
  have le : e < s.heap.objs.size := Heap.lt_size he
  show wpAny _ _ (field (.ref e) 3 >>= _) _ _ _
  refine wpAny_bind (wpAny_field (s := { s with heap := hA }) eA rfl (x := rawInt (k : Nat)) rfl ?_)
  show wpAny _ _ (field (.ref e) 4 >>= _) _ _ _
  refine wpAny_bind (wpAny_field (s := { s with heap := hA }) eA rfl (x := .none) rfl ?_)
  show wpAny _ _ (mkInt (k : Nat) >>= _) _ _ _
  refine wpAny_bind (wpAny_mkInt ?_)
  show wpAny _ _ (setField (.ref e) 3 (rawInt ((k : Int) + 1)) >>= _) _ _ _
  refine wpAny_bind (wpAny_setField_rec (s := { s with heap := hA, toks := s.toks + 1 }) eA (by simp) fun g1 e1 sb1 => ?_)
  show wpAny _ _ (setField (.ref e) 4 .none >>= _) _ _ _
  refine wpAny_bind (wpAny_setField_rec (s := { s with heap := g1, toks := s.toks + 1 }) e1 (by simp) fun g2 e2 sb2 => ?_)
  show wpAny _ _ (newTuple [.int (k : Nat) s.toks, .ref s.heap.objs.size] >>= _) _ _ _
  refine wpAny_bind (wpAny_newTuple ?_)
  have s2 : g2.objs.size = s.heap.objs.size + 1 := by rw [sb2.1, sb1.1]; exact sA
  have kp2 : ∀ c o, c ≠ e → hA.get? c = some o → (g2.push { cls := .type "tuple", data := .seq #[.int (k : Nat) s.toks, .ref s.heap.objs.size] }).get? c = some o := fun c o ce q => Heap.get?_push_of_some _ (sb2.extBut _ _ ce (sb1.extBut _ _ ce q))
  have T3 : (g2.push { cls := .type "tuple", data := .seq #[.int (k : Nat) s.toks, .ref s.heap.objs.size] }).get? (s.heap.objs.size + 1) = some { cls := .type "tuple", data := .seq #[.int (k : Nat) s.toks, .ref s.heap.objs.size] } := by
    rw [← s2]; exact Heap.get?_push_size _ rfl
  have e3 : IsEnum (g2.push { cls := .type "tuple", data := .seq #[.int (k : Nat) s.toks, .ref s.heap.objs.size] }) e z ((k : Int) + 1) old := Heap.get?_push_of_some _ e2
  have s3 : (g2.push { cls := .type "tuple", data := .seq #[.int (k : Nat) s.toks, .ref s.heap.objs.size] }).objs.size = s.heap.objs.size + 2 := by rw [Heap.size_push, s2]
  show wpAny _ _ (Builtin.SmallTypes.ownedTupleIsFree (.ref e) >>= _) _ _ { s with heap := g2.push { cls := .type "tuple", data := .seq #[.int (k : Nat) s.toks, .ref s.heap.objs.size] }, toks := s.toks + 1 }
  generalize g2.push { cls := .type "tuple", data := .seq #[.int (k : Nat) s.toks, .ref s.heap.objs.size] } = g3 at kp2 T3 e3 s3 ⊢
  rw [s2]
  refine wpAny_bind ?_
  unfold Builtin.SmallTypes.ownedTupleIsFree
  refine wpAny_bind (wpAny_field (s := { s with heap := g3, toks := s.toks + 1 }) e3 rfl (x := .none) rfl (wpAny_pure ?_))
  simp only [if_true]
  refine wpAny_bind (wpAny_rule (wpAny_bind (wpAny_field (s := { s with heap := g3, toks := s.toks + 1 }) e3 rfl (x := old) rfl ?_)))
  refine wpAny_bind (wpAny_setField_rec (s := { s with heap := g3, toks := s.toks + 1 }) e3 (by simp) fun g4 e4 sb4 => ?_)
  show wpAny _ _ (Builtin.SmallTypes.ownedTupleHandOut (.ref e) (.ref (s.heap.objs.size + 1)) >>= _) _ _ _
  refine wpAny_bind ?_
  unfold Builtin.SmallTypes.ownedTupleHandOut
  refine wpAny_bind (wpAny_setField_rec (s := { s with heap := g4, toks := s.toks + 1 }) e4 (by simp) fun g5 e5 sb5 => ?_)
  refine wpAny_setField_rec (s := { s with heap := g5, toks := s.toks + 1 }) e5 (by simp) fun g6 e6 sb6 => ?_
  refine wpAny_bind (wpAny_letGo (wpAny_pure ⟨_, rfl, wpAny_pure ?_⟩))
  have ne : s.heap.objs.size + 1 ≠ e := Nat.ne_of_gt (Nat.lt_succ_of_lt le)
  refine hQ hA g6 s.toks ZA pA sA rA e6 (sb6.extBut _ _ ne (sb5.extBut _ _ ne (sb4.extBut _ _ ne T3))) (by rw [sb6.1, sb5.1, sb4.1]; exact s3) fun c o ce q => sb6.extBut _ _ ce (sb5.extBut _ _ ce (sb4.extBut _ _ ce (kp2 c o ce q)))
theorem en_end {e z TI TO i1 i2 l1 l2 : Addr} {k : Nat} {xs : Array Value} {old : Value} {Q : Option Value → Shared → Prop} (hh : A.handled = none) (D : ZipApart z TI TO i1 i2 l1 l2) (Z : ZAt s.heap z TI TO i1 i2 l1 l2 k)
    (he : IsEnum s.heap e z (k : Nat) old) (hl1 : s.heap.IsTuple l1 xs) (hx : xs[k]? = none) (hQ : ∀ h', Rest z TO i1 i2 s.heap h' → Q none { s with heap := h' }) :
    wpAny (model prog w) A (pyNext (.ref e)) Q E s := by
  have hT : s.TypeIs (.ref e) "enumerate" := ⟨_, he, rfl⟩
  unfold pyNext
  refine wpAny_bind (wpAny_attempt (wpAny_callSpecial?_slot (name := Str.ofString "__next__") hT F.slot_enumerate_next (wpAny_call_entry F.slot_enumerate_next hT F.entry_enumerate_next ?_ (F.args_enumerate_next_1 _))))
  show wpAny _ _ (field (.ref e) 2 >>= _) _ _ _
  refine wpAny_bind (wpAny_field he rfl (x := .ref z) rfl ?_)
  have hh1 : A.in1.handled = none := hh
  refine wpAny_bind (zip_end hh1 D Z hl1 hx fun h' ee r hs => ?_)
  obtain ⟨o, ho, hc⟩ := hs
  exact wpAny_bind (wpAny_isInstance (T := "StopIteration") (b := true) ⟨o, ho, hc⟩ isSubtype_stop (wpAny_pure (hQ _ r)))
end
end EZ
set_option Elab.async false
set_option linter.all false
set_option maxRecDepth 100000
set_option maxHeartbeats 2000000
namespace EZ
open PySem PySem.Spec RZ PySem.W
open Sem (wp)
theorem meets_enz (z : Addr) : Meets (Builtin.«enumerate.__new__» ⟨[.type "enumerate", .ref z], []⟩) (fun _ R s => (∃ TI TO, IsZip s.heap z TI TO .none) ∧
      R (.ok (.ret (.ref s.heap.objs.size))) { s with heap := s.heap.push { cls := .type "enumerate", data := .fields #[.none, .bool false, .ref z, rawInt 0, .none, .none] } }) :=
  .of_wp fun prog w A R s h => by
    obtain ⟨hp, g, d, tk, os⟩ := s
    obtain ⟨⟨TI, TO, hz⟩, h⟩ := h
    have hsub := sub_enumerate
    have q1 : ∀ {A' : Around} {E : Value → Shared → Prop} {Q : Value → Shared → Prop}, Q (.ref z) ⟨hp, g, d, tk, os⟩ → wpAny (model prog w) A' (pyIter (.ref z)) Q E ⟨hp, g, d, tk, os⟩ :=
      fun q => wpAny_pyIter_zip hz q
    wp_walk using q1
    refine wpAny_stack_any fun st => wpAny_pure ?_
    split
    · rename_i c _ _ _ _ _
      cases (c == Value.type "enumerate")
      all_goals (wp_walk using q1; exact ⟨_, rfl, h⟩)
    · wp_walk using q1
      exact ⟨_, rfl, h⟩
theorem call_enz {prog : Program} {w : World} {A : Around} {E : Value → Shared → Prop} {s : Shared} {z TI TO : Addr} {Q : Value → Shared → Prop} (hz : IsZip s.heap z TI TO .none)
    (h : Q (.ref s.heap.objs.size) { s with heap := s.heap.push { cls := .type "enumerate", data := .fields #[.none, .bool false, .ref z, rawInt 0, .none, .none] } }) :
    wpAny (model prog w) A (call (.type "enumerate") [.ref z]) Q E s := by
  refine callType_new F.called_enumerate (by decide) (F.typeCall_enumerate_1 _) (F.newCall_enumerate_1 _) (fun obj => F.args_object_init_2 obj _) F.entry_enumerate_new (meets_enz z) ⟨⟨TI, TO, hz⟩, ?_⟩
  exact ⟨⟨_, Heap.get?_push_size _ rfl, rfl⟩, h⟩
end EZ
namespace L2
open PySem PySem.Spec PyProof.Rows RZ EZ
/-- the tuples at a and b: (i, (x, y)), both tuples new -/
def ItEZ (K : PySem.W.Frag) (a b : Addr) : It :=
  ⟨fun i H => ∃ (xs ys : List V) (x y : V), SqT K H a xs ∧ SqT K H b ys ∧ xs[i]? = some x ∧ ys[i]? = some y,
    fun i H v H' => ∃ T P x y, v = .ref T ∧ H P = none ∧ upd H P (.tup [x, y]) T = none ∧ H' = upd (upd H P (.tup [x, y])) T (.tup [.int (i : Nat), .ref P]) ∧ (∀ xs, SqT K H a xs → xs[i]? = some x) ∧ ∀ ys, SqT K H b ys → ys[i]? = some y,
    fun i H => ∃ xs : List V, SqT K H a xs ∧ xs.length ≤ i⟩
theorem turn_enz {P : Program} {w : World} {K : PySem.W.Frag} {elts : List Expr} {kk : Nat} {tpos : Pos} {a b e z TI TO i1 i2 : Addr} (D : ZipApart z TI TO i1 i2 a b) (n1 : e ≠ z) (n2 : e ≠ TO) (n3 : e ≠ i1) (n4 : e ≠ i2) :
    Turn P w K (.Tuple elts kk tpos) (ItEZ K a b) [e, z, TI, TO, i1, i2] e (fun i h => (∃ old, IsEnum h e z (i : Nat) old) ∧ ZAt h z TI TO i1 i2 a b i) where
  mem := by simp
  obj := fun i h st c hc => by
    obtain ⟨⟨old, he⟩, ⟨⟨f0, f1, _, hz⟩, hTI, ⟨x, y, hTO⟩, ⟨o1, h1, c1, d1⟩, ⟨o2, h2, c2, d2⟩⟩⟩ := st
    have e' : c = e ∨ c = z ∨ c = TI ∨ c = TO ∨ c = i1 ∨ c = i2 := by simpa using hc
    rcases e' with q | q | q | q | q | q
    · rw [q]; exact ⟨_, he, fun v z => nomatch z⟩
    · rw [q]; exact ⟨_, hz, fun v z => nomatch z⟩
    · rw [q]; exact ⟨_, hTI, fun v z => nomatch z⟩
    · rw [q]; exact ⟨_, hTO, fun v z => nomatch z⟩
    · rw [q]; exact ⟨o1, h1, fun v z => by rw [d1] at z; cases z⟩
    · rw [q]; exact ⟨o2, h2, fun v z => by rw [d2] at z; cases z⟩
  keep := fun i h h' st k => by
    obtain ⟨⟨old, he⟩, ⟨⟨f0, f1, hf, hz⟩, hTI, ⟨x, y, hTO⟩, h1, h2⟩⟩ := st
    exact ⟨⟨old, k e (by simp) _ he⟩, ⟨f0, f1, hf, k z (by simp) _ hz⟩, k TI (by simp) _ hTI, ⟨x, y, k TO (by simp) _ hTO⟩, h1.at fun o q => k i1 (by simp) o q, h2.at fun o q => k i2 (by simp) o q⟩
  item := by
    intro X hP hw hK hc i pins s σ H E I hf st hg
    subst hP hw hK
    obtain ⟨⟨old, he⟩, Z⟩ := st
    obtain ⟨xs, ys, x, y, hqx, hqy, hx, hy⟩ := hg
    obtain ⟨its, rv, p, _⟩ := I.tuple hqx
    obtain ⟨its2, rv2, p2, _⟩ := I.tuple hqy
    obtain ⟨u, hu, ru⟩ := rv.get hx
    obtain ⟨u2, hu2, ru2⟩ := rv2.get hy
    have le : e < s.heap.objs.size := Heap.lt_size he
    have lts : ∀ c ∈ [e, z, TI, TO, i1, i2], c < s.heap.objs.size := fun c hc => by
      obtain ⟨⟨f0, f1, _, hz⟩, hTI, ⟨_, _, hTO⟩, ⟨o1, h1, _⟩, ⟨o2, h2, _⟩⟩ := Z
      have e' : c = e ∨ c = z ∨ c = TI ∨ c = TO ∨ c = i1 ∨ c = i2 := by simpa using hc
      rcases e' with q | q | q | q | q | q
      · rw [q]; exact le
      · rw [q]; exact Heap.lt_size hz
      · rw [q]; exact Heap.lt_size hTI
      · rw [q]; exact Heap.lt_size hTO
      · rw [q]; exact Heap.lt_size h1
      · rw [q]; exact Heap.lt_size h2
    refine en_item D Z he n1 n2 n3 n4 (show s.heap.IsTuple a its.toArray from p) (show s.heap.IsTuple b its2.toArray from p2) (x := u) (y := u2) (by simpa using hu) (by simpa using hu2) fun hA h' tk ZA pA sA rA ho hT sz kp => ?_
    refine ⟨_, rfl, wpAny_letOwnedTupleGo_enum (s := { s with heap := h', toks := tk + 1 }) ho fun h2 he2 sb => ?_⟩
    have fP : H s.heap.objs.size = none := I.hok.fresh (Nat.le_refl _)
    have newA : ObjOk X.prog X.w (upd H s.heap.objs.size (.tup [x, y])) hA s.heap.objs.size (.tup [x, y]) :=
      ⟨by show 2 ≤ sizeLine; decide, [u, u2], .cons ru (.cons ru2 .nil), ⟨_, pA, rfl, _, rfl⟩⟩
    have IA : Inv X pins σ (upd H s.heap.objs.size (.tup [x, y])) { s with heap := hA, toks := s.toks } :=
      I.turnedNew (ch := [z, TO, i1, i2]) (fun c o hb q => rA c o (fun z' => hb (by simp [z'])) (fun z' => hb (by simp [z'])) (fun z' => hb (by simp [z'])) (fun z' => hb (by simp [z'])) q) (fun c hc => hf c (by
        have e' : c = z ∨ c = TO ∨ c = i1 ∨ c = i2 := by simpa using hc
        rcases e' with q | q | q | q <;> simp [q])) (Nat.le_refl _) newA
    have hfe : ∀ c ∈ [e], FpOk X pins (upd H s.heap.objs.size (.tup [x, y])) c := fun c hc => by
      obtain rfl := List.mem_singleton.mp hc
      obtain ⟨q0, q⟩ := hf c (by simp)
      exact ⟨by rw [upd_ne (Nat.ne_of_lt le)]; exact q0, q⟩
    have gT : h2.get? (s.heap.objs.size + 1) = some { cls := .type "tuple", data := .seq #[.int (i : Nat) tk, .ref s.heap.objs.size] } := (sb.2 _ (Nat.ne_of_gt (Nat.lt_succ_of_lt le))).trans hT
    have newT : ObjOk X.prog X.w (upd (upd H s.heap.objs.size (.tup [x, y])) (s.heap.objs.size + 1) (.tup [.int (i : Nat), .ref s.heap.objs.size])) h2 (s.heap.objs.size + 1) (.tup [.int (i : Nat), .ref s.heap.objs.size]) :=
      ⟨by show 2 ≤ sizeLine; decide, [.int (i : Nat) tk, .ref s.heap.objs.size], .cons ⟨_, rfl⟩ (.cons rfl .nil), ⟨_, gT, rfl, _, rfl⟩⟩
    have IT : Inv X pins σ (upd (upd H s.heap.objs.size (.tup [x, y])) (s.heap.objs.size + 1) (.tup [.int (i : Nat), .ref s.heap.objs.size])) { s with heap := h2, toks := tk + 1 } :=
      IA.turnedNew (ch := [e]) (fun c o hb q => (sb.2 c (fun z' => hb (by simp [z']))).trans (kp c o (fun z' => hb (by simp [z'])) q)) hfe (Nat.le_of_eq sA) newT
    have fT : upd H s.heap.objs.size (.tup [x, y]) (s.heap.objs.size + 1) = none := IA.hok.fresh (Nat.le_of_eq sA)
    refine ⟨.ref (s.heap.objs.size + 1), _, IT, rfl, ⟨_, _, x, y, rfl, fP, fT, rfl, fun zs hz => by rw [I.tuple_inj hz hqx]; exact hx, fun zs hz => by rw [I.tuple_inj hz hqy]; exact hy⟩, ⟨⟨_, he2⟩, ?_⟩, fun c hc => ?_⟩
    · obtain ⟨⟨f0, f1, hf0, hz⟩, hTI, ⟨x0, y0, hTO⟩, h1, h2'⟩ := ZA
      have up : ∀ c o, c ≠ e → hA.get? c = some o → h2.get? c = some o := fun c o ce q => (sb.2 c ce).trans (kp c o ce q)
      have nTI : TI ≠ e := fun q => by
        subst q
        have q1 : s.heap.get? TI = some _ := Z.ti
        have q2 : s.heap.get? TI = some _ := he
        exact absurd (Value.type.inj (congrArg Obj.cls (Option.some.inj (q1.symm.trans q2)))) (by decide)
      exact ⟨⟨f0, f1, hf0, up _ _ n1.symm hz⟩, up _ _ nTI hTI, ⟨x0, y0, up _ _ n2.symm hTO⟩, h1.at fun o q => up _ _ n3.symm q, h2'.at fun o q => up _ _ n4.symm q⟩
    · have l := lts c hc
      rw [upd_ne (Nat.ne_of_lt (Nat.lt_succ_of_lt l)), upd_ne (Nat.ne_of_lt l)]
      exact (hf c hc).1
  done := by
    intro X hP hw hK hc i pins s σ H E I hf st hg
    subst hP hw hK
    obtain ⟨⟨old, he⟩, Z⟩ := st
    obtain ⟨xs, hqx, hend⟩ := hg
    obtain ⟨its, rv, p, _⟩ := I.tuple hqx
    have l1 := rv.length
    refine en_end (I.ok.hd hc) D Z he (show s.heap.IsTuple a its.toArray from p) (by simp; omega) fun h' r => ⟨rfl, I.turnedL (t' := s.toks) (ch := [e, z, TI, TO, i1, i2]) (fun c o hb q =>
      r c o (fun q' => hb (by simp [q'])) (fun q' => hb (by simp [q'])) (fun q' => hb (by simp [q'])) (fun q' => hb (by simp [q'])) q) hf⟩
  self := fun A i s Q E st h => let ⟨⟨_, he⟩, _⟩ := st; wpAny_pyIter_enum he h
def iEnZip (K : PySem.W.Frag) (ta : TA) : TI := fun σ H R => ta σ H fun vs H1 => ∃ a b xs ys, vs = [.ref a, .ref b] ∧ SqT K H1 a xs ∧ SqT K H1 b ys ∧ R (ItEZ K a b) H1
theorem pi_enZip {X : Cx} {e e2 : Expr} {ta : TA} {p p2 pos pos2 tpos : Pos} {elts : List Expr} {kk : Nat} (hg : Gl X "enumerate") (hm : X.mg "enumerate" = none) (hg2 : Gl X "zip") (hm2 : X.mg "zip" = none) (ha : PA X [e, e2] ta)
    (hs : starEach [e, e2] X.env = (false, eval e X.env) :: starEach [e2] X.env := by rfl) (hpl : (backTo pos2 (starEach [e2] X.env)).any (·.1) = false := by rfl)
    (hs2 : starEach [.Call (.Name "zip" p2) [e, e2] [] pos2] X.env = (false, eval (.Call (.Name "zip" p2) [e, e2] [] pos2) X.env) :: starEach [] X.env := by rfl) :
    PI X (.Tuple elts kk tpos) (.Call (.Name "enumerate" p) [.Call (.Name "zip" p2) [e, e2] [] pos2] [] pos) (iEnZip X.K ta) := by
  refine ⟨fun pins s σ H R I h => ?_⟩
  refine Call_ (ld_blt I hg hm boot_enumerate (PyProof.Rows.callWith_type1 (args_cons (Call_ (ld_blt I hg2 hm2 PyProof.Rows.boot_zip (PyProof.Rows.callWith_type1 (thn (ha.run pos2 pins s σ H _ I h) fun us s1 ⟨vs, H1, I1, r1, q1⟩ => ?_) hs hpl))) hs2) hs2 rfl))
  obtain ⟨a, b, xs, ys, ex, hqx, hqy, q⟩ := q1
  subst ex
  cases r1 with
  | cons r rr =>
    cases rr with
    | cons r' rr =>
      cases rr
      cases r
      cases r'
      obtain ⟨its, rv, p1, _⟩ := I1.tuple hqx
      obtain ⟨its2, rv2, p2, _⟩ := I1.tuple hqy
      obtain ⟨o1, ho1, _⟩ := id p1
      obtain ⟨o2, ho2, _⟩ := id p2
      refine call_zipT (show s1.heap.IsTuple a its.toArray from p1) (show s1.heap.IsTuple b its2.toArray from p2) fun h' hz hTI hTO h1 h2 hsz hk => args_nil ?_
      refine call_enz (s := { s1 with heap := h' }) hz ?_
      have up : ∀ c o, h'.get? c = some o → (h'.push { cls := .type "enumerate", data := .fields #[.none, .bool false, .ref (s1.heap.objs.size + 4), rawInt 0, .none, .none] }).get? c = some o := fun c o q => Heap.get?_push_of_some _ q
      have ge : IsEnum (h'.push { cls := .type "enumerate", data := .fields #[.none, .bool false, .ref (s1.heap.objs.size + 4), rawInt 0, .none, .none] }) (s1.heap.objs.size + 5) (s1.heap.objs.size + 4) ((0 : Nat) : Int) .none := by
        have z := Heap.get?_push_size h' (o := { cls := .type "enumerate", data := .fields #[.none, .bool false, .ref (s1.heap.objs.size + 4), rawInt 0, .none, .none] }) rfl
        rw [hsz] at z
        exact z
      have I2 : Inv X pins σ H1 { s1 with heap := h'.push { cls := .type "enumerate", data := .fields #[.none, .bool false, .ref (s1.heap.objs.size + 4), rawInt 0, .none, .none] } } := I1.kept (t' := s1.toks) fun c o q => up c o (hk c o q)
      show wpAny _ _ (pyIter (.ref h'.objs.size)) _ _ _
      rw [hsz]
      refine wpAny_pyIter_enum ge ?_
      have D := PySem.W.ktu_apart s1.heap.objs.size a b (Heap.lt_size ho1) (Heap.lt_size ho2)
      have ne : ∀ k, k < 5 → s1.heap.objs.size + 5 ≠ s1.heap.objs.size + k := fun k hk z => by
        have := Nat.add_left_cancel z
        omega
      refine ⟨s1.heap.objs.size + 5, [s1.heap.objs.size + 5, s1.heap.objs.size + 4, s1.heap.objs.size + 2, s1.heap.objs.size + 3, s1.heap.objs.size, s1.heap.objs.size + 1], _, _, H1, rfl, I2, turn_enz D (ne 4 (by decide)) (ne 3 (by decide)) (ne 0 (by decide)) (ne 1 (by decide)),
        ⟨⟨.none, ge⟩, ⟨.none, false, .inl rfl, up _ _ hz⟩, up _ _ hTI, ⟨_, _, up _ _ hTO⟩, h1.at fun o q => up _ _ q, h2.at fun o q => up _ _ q⟩, fun c hc => ?_, q⟩
      have hle : s1.heap.objs.size ≤ c := by
        have e' : c = s1.heap.objs.size + 5 ∨ c = s1.heap.objs.size + 4 ∨ c = s1.heap.objs.size + 2 ∨ c = s1.heap.objs.size + 3 ∨ c = s1.heap.objs.size ∨ c = s1.heap.objs.size + 1 := by simpa using hc
        rcases e' with z | z | z | z | z | z <;> rw [z] <;> first | exact Nat.le_add_right _ _ | exact Nat.le_refl _
      exact I1.fpOk hle (I1.hok.fresh hle)
end L2
set_option Elab.async false
set_option linter.all false
set_option maxRecDepth 100000
set_option maxHeartbeats 4000000
namespace DC
open PySem L2 Gd
theorem itemOk_two {G H2 : Hp} {A T : Addr} {ws : List V} {ds : List PyData} {j : Int} (k : ∀ b o, G b = some o → H2 b = some o) (hA : H2 A = none) (hT : upd H2 A (.tup ws) T = none) (h : DaL G ws ds) :
    ItemOk G H2 (upd (upd H2 A (.tup ws)) T (.tup [.int j, .ref A])) (.ref T) (.tuple [.int j, .tuple ds]) := by
  obtain ⟨s1, G3, g3, d3⟩ := itemOk_tup k hA h
  have hTA : T ≠ A := fun z => by rw [z, upd_same] at hT; cases hT
  have hT2 : H2 T = none := by rw [upd_ne hTA] at hT; exact hT
  have nn : ∀ {H : Hp} {p : Addr} {o : HO}, H p = none → Same H (upd H p o) := fun h b u e => by rw [upd_ne (ne_of_none e h)]; exact e
  have hG3 : G3 T = none := by
    cases q : G3 T with
    | none => rfl
    | some o =>
      rcases g3 T o q with z | ⟨_, z, _⟩
      · rw [k _ _ z] at hT2; cases hT2
      · rw [hT] at z; cases z
  refine ⟨s1.trans (nn hT), upd G3 T (.tup [.int j, .ref A]), fun b o e => ?_, .tup upd_same (.cons (.int j) (.cons (d3.mono fun b o e => by rw [upd_ne (ne_of_none e hG3)]; exact e) .nil))⟩
  by_cases hb : b = T
  · rw [hb, upd_same] at e
    cases e
    rw [hb]
    exact .inr ⟨hT2, upd_same, by intro _ z; cases z⟩
  · rw [upd_ne hb] at e
    rcases g3 b o e with z | ⟨z1, z2, z3⟩
    · exact .inl z
    · exact .inr ⟨z1, by rw [upd_ne hb]; exact z2, z3⟩
section
variable {C : Ctx} {E : XK} {X : XP} {n : Nat} {ρ : Dv} {K : PySem.W.Frag}
theorem iter_enZ {G : Hp} {a b : Addr} {xs ys : List V} {ds es : List PyData} (h : G a = some (.tup xs)) (r : DaL G xs ds) (h2 : G b = some (.tup ys)) (r2 : DaL G ys es) (hl : ds.length = es.length) : Iter (ItEZ K a b) G (enD (zipD ds es)) := fun H2 k => by
  have hn : (enD (zipD ds es)).length = ds.length := by rw [enD_len]; simp [zipD]; omega
  refine ⟨fun i hi => ?_, ⟨xs, SqT.of (k _ _ h), by rw [hn, r.length]; exact Nat.le_refl _⟩, fun i x v H3 hx hy => ?_⟩
  · rw [hn] at hi
    obtain ⟨v, hv, _⟩ := dal_get r (List.getElem?_eq_getElem (show i < ds.length by omega))
    obtain ⟨u, hu, _⟩ := dal_get r2 (List.getElem?_eq_getElem (show i < es.length by omega))
    exact ⟨xs, ys, v, u, SqT.of (k _ _ h), SqT.of (k _ _ h2), hv, hu⟩
  · obtain ⟨T, P, y, z, rfl, hP, hT, rfl, hy, hz⟩ := hy
    obtain ⟨d0, hd0, rfl⟩ := enD_get hx
    obtain ⟨d, e, hd, he, rfl⟩ := zipD_get hd0
    exact itemOk_two k hP hT (.cons (dal_at r hd (hy xs (SqT.of (k _ _ h)))) (.cons (dal_at r2 he (hz ys (SqT.of (k _ _ h2)))) .nil))
theorem i_enZip {t u : TE} {P : Nat → List PyData → Prop} (h : EJ C E X n ρ t fun n1 x => ∃ ds, x = .d (.tuple ds) ∧ EJ C E X n1 ρ u fun n2 y => ∃ es, y = .d (.tuple es) ∧ ds.length = es.length ∧ P n2 (enD (zipD ds es))) : IJ C E X n ρ (iEnZip K (tCons t (tCons u tNil))) P := fun σ H R' I e x k =>
  h σ H _ I e x fun v y n1 H1 g1 i1 r1 ⟨ds, ey, p⟩ => p σ H1 _ i1 (e.up g1) (x.up g1) fun w z n2 H2 g2 i2 r2 ⟨es, ez, hl, p⟩ => by
    subst ey ez
    obtain ⟨a, xs, rfl, ha, hx⟩ := da_tuple (Rep.up r1 g2)
    obtain ⟨b, ys, rfl, hb, hy⟩ := da_tuple r2
    exact ⟨a, b, xs, ys, rfl, SqT.of (C.sub _ _ ha), SqT.of (C.sub _ _ hb), k _ n2 H2 _ (C.trans g1 g2) i2 p (iter_enZ ha hx hb hy hl)⟩
end
end DC
set_option Elab.async false
set_option linter.all false
set_option maxRecDepth 100000
set_option maxHeartbeats 4000000
namespace DC
open PySem L2 Gd LamX
/-! ### contexts where lambdas are made: the tables of code objects are hidden -/
def noT (H : Hp) : Hp := fun b => match H b with
  | some (.tbl _) => none
  | o => o
theorem noT_of {H : Hp} {b : Addr} {o : HO} (h : H b = some o) (n : ∀ ps, o ≠ .tbl ps) : noT H b = some o := by
  unfold noT
  rw [h]
  cases o <;> first | rfl | exact absurd rfl (n _)
theorem noT_some {H : Hp} {b : Addr} {o : HO} (h : noT H b = some o) : H b = some o ∧ ∀ ps, o ≠ .tbl ps := by
  unfold noT at h
  split at h
  · cases h
  · next q =>
    refine ⟨h, fun ps e => ?_⟩
    subst e
    exact q ps h
theorem noT_none {H : Hp} {b : Addr} (h : H b = none) : noT H b = none := by
  unfold noT; rw [h]
theorem noT_mono {G H : Hp} (h : ∀ b o, G b = some o → H b = some o) : ∀ b o, noT G b = some o → noT H b = some o := fun b o e => by
  obtain ⟨a, n⟩ := noT_some e
  exact noT_of (h b o a) n
theorem noT_ext {H H' : Hp} (e : ExtN H H') : Same (noT H) (noT H') := fun b o h => by
  obtain ⟨a, n⟩ := noT_some h
  exact noT_of (e b o a n) n
theorem noT_upd {H : Hp} {p : Addr} {o : HO} (n : ∀ ps, o ≠ .tbl ps) : noT (upd H p o) = upd (noT H) p o := by
  funext b
  by_cases e : b = p
  · rw [e, noT_of upd_same n, upd_same]
  · rw [upd_ne e]
    unfold noT
    rw [upd_ne e]
def tabC (T : List (Addr × Str)) (C : Ctx) : Ctx where
  vw := fun H => C.vw (noT H)
  inv := fun n H => C.inv n (noT H) ∧ Tabs T H
  R := fun H H' => C.R (noT H) (noT H')
  refl := fun H => C.refl _
  trans := fun a b => C.trans a b
  vwm := fun g => C.vwm g
  sub := fun _ _ h => (noT_some (C.sub _ _ h)).1
  mono := fun h => C.mono (noT_mono h)
  new := fun {n H p} o i h hn => by
    obtain ⟨a, b, c⟩ := C.new o i.1 (noT_none h) hn
    rw [noT_upd hn]
    exact ⟨a, ⟨b, i.2.ext fun q u e => by rw [upd_ne (ne_of_none e h)]; exact e⟩, c⟩
  same := fun i s => by
    obtain ⟨a, b⟩ := C.same i.1 (noT_ext (ExtN.of s))
    exact ⟨a, b, i.2.ext s⟩
  fresh := fun {n H H' b o} i s h e hn => C.fresh i.1 (noT_ext (ExtN.of s)) (noT_none h) (noT_of e hn) hn
  hid := C.hid
  kept := fun {H H' a o} r h e hn => (noT_some (C.kept r h (noT_of e (dataO.nt hn)) hn)).1
  live := fun {n H a} i h => by
    obtain ⟨o, e, hn⟩ := C.live i.1 h
    exact ⟨o, (noT_some e).1, hn⟩
theorem HasM.tab {T : List (Addr × Str)} {C : Ctx} {m c : Addr} (h : HasM C m c) : HasM (tabC T C) m c where
  get := fun i => by
    obtain ⟨l, sd, sp, cs, e1, e2, r⟩ := (h.get i.1).ex
    exact ⟨l, sd, sp, cs, (noT_some e1).1, (noT_some e2).1, r⟩
  put := fun {n n' H H'} i M g => by
    obtain ⟨l, sd, sp, cs, e1, e2, r⟩ := M.ex
    have M' : MOk (noT H') m c n' := ⟨l, sd, sp, cs, noT_of e1 (by intro _ z; cases z), noT_of e2 (by intro _ z; cases z), r⟩
    have g' : Grow m (noT H) (noT H') := fun b o hb e => by
      obtain ⟨a, n⟩ := noT_some e
      exact noT_of (g b o hb a) n
    obtain ⟨a, b⟩ := h.put i.1 M' g'
    refine ⟨a, b, fun p hp => ?_⟩
    obtain ⟨l0, sd0, sp0, cs0, q1, _⟩ := (h.get i.1).ex
    have hm := (noT_some q1).1
    obtain ⟨ps, t1, t2, t3⟩ := i.2 p hp
    refine ⟨ps, g _ _ (fun z => by rw [z, hm] at t1; cases t1) t1, t2, fun pos cv hc => ?_⟩
    obtain ⟨k, e, hk⟩ := t3 pos cv hc
    exact ⟨k, e, g _ _ (fun z => by rw [z, hm] at hk; cases hk) hk⟩
theorem tab_ext {T : List (Addr × Str)} {C : Ctx} {n : Nat} {H H' : Hp} (i : (tabC T C).inv n H) (e : ExtN H H') (t : Tabs T H') : (tabC T C).R H H' ∧ (tabC T C).inv n H' := by
  obtain ⟨a, b⟩ := C.same i.1 (noT_ext e)
  exact ⟨a, b, t⟩
/-! ### what a call comes to -/
inductive Oc where
  | ok (d : PyData)
  | exc (c : Addr) (f : Str) (tag : Str) (d : PyData)
def Oc.said : Oc → PyData
  | .ok d => .list [d]
  | .exc _ _ tag d => .tuple [.str tag, d]
/-- a heap's answer for it -/
def OutC (C : Ctx) (n : Nat) (z : Oc) (H : Hp) (Q : VK) (E : XK) : Prop := match z with
  | .ok d => ∀ r H', C.R H H' → C.inv n H' → Rep C H' r (.d d) → Q r H'
  | .exc cls f _ d => ∀ v dd H', C.R H H' → C.inv n H' → C.vw H' dd = some (.xd [(f, v)]) → Da (C.vw H') v d → E (.ref cls) (some dd) H'
/-- data's answer for it -/
def OutD (z : Oc) (n : Nat) (P : Nat → DVal → Prop) (X : XP) : Prop := match z with
  | .ok d => P n (.d d)
  | .exc cls f _ d => X n cls f d
/-- what a def makes of the call that it is handed -/
def TTd (Good : Oc → Prop) : (XK → Hp → VK → Prop) → Hp → VK → Prop := fun tl H Q => ∃ (C : Ctx) (n : Nat) (z : Oc), C.inv n H ∧ Good z ∧ (∀ Qc Ec, OutC C n z H Qc Ec → tl Ec H Qc) ∧ ∀ r H', C.R H H' → C.inv n H' → Rep C H' r (.d z.said) → Q r H'
theorem e_said {T : List (Addr × Str)} {C0 : Ctx} {E : XK} {X : XP} {n : Nat} {ρ : Dv} {t : XK → TE} {P : Nat → DVal → Prop} {Gd : Oc → Prop}
    (h : ∃ z, Gd z ∧ (∀ (E' : XK) (P' : Nat → DVal → Prop) (X' : XP), (OutD z n P' X') → EJ (tabC T C0) E' X' n ρ (t E') P') ∧ P n (.d z.said)) : EJ (tabC T C0) E X n ρ (tLam T (TTd Gd) t) P := fun σ H Q I e x k => by
  obtain ⟨z, hg, hz, hp⟩ := h
  refine ⟨I.2, fun H1 e1 t1 => ?_⟩
  obtain ⟨r1, i1⟩ := tab_ext I e1 t1
  refine ⟨tabC T C0, n, z, i1, hg, fun Qc Ec o => ?_, fun r H' g i rp => k r (.d z.said) n H' ((tabC T C0).trans r1 g) i rp hp⟩
  cases z with
  | ok d =>
    refine hz Ec (fun n' y => n' = n ∧ y = .d d) (fun _ _ _ _ => False) ⟨rfl, rfl⟩ σ H1 Qc i1 (e.up r1) (fun _ _ _ _ _ _ _ _ _ _ _ q => q.elim) fun v y n' H' g i rp ⟨hn, hy⟩ => ?_
    subst hn hy
    exact o v H' g i rp
  | exc cls f tag d =>
    refine hz Ec (fun _ _ => False) (fun n' c f' d' => n' = n ∧ c = cls ∧ f' = f ∧ d' = d) ⟨rfl, rfl, rfl, rfl⟩ σ H1 Qc i1 (e.up r1) (fun c f' dd v d' n' H' g i q1 q2 ⟨a0, a1, a2, a3⟩ => ?_) fun v y n' H' g i rp q => q.elim
    subst a0 a1 a2 a3
    exact o v dd H' g i q1 q2
end DC
set_option Elab.async false
set_option linter.all false
set_option maxRecDepth 100000
set_option maxHeartbeats 4000000
namespace DC
open PySem L2 Gd
section
variable {C : Ctx} {E : XK} {X : XP} {n : Nat} {ρ : Dv} {K : PySem.W.Frag} {P : Nat → DVal → Prop} {p : Post}
theorem e_dnew (h : P n (.d (.dict []))) : EJ C E X n ρ tDNewK P := fun σ H Q I e x k => fun p hp => by
  obtain ⟨a, b, c⟩ := C.new (.dK []) I hp
  exact k _ (.d (.dict [])) n _ a b (show Rep C _ _ (.d (.dict [])) from Da.dic (kvs := []) c .nil) h
theorem dal_rg {H : Hp} (lo hi : Int) : DaL H (rgV lo hi) (rgD lo (hi - lo).toNat) := by
  unfold rgV rgD
  generalize (List.range (hi - lo).toNat) = l
  induction l with
  | nil => exact .nil
  | cons a r ih => exact .cons (.int _) ih
theorem e_tupRg {ta : TE} (h : EJ C E X n ρ ta fun n1 x => ∃ k : Int, x = .d (.int k) ∧ 0 ≤ k ∧ k ≤ 5000 ∧ P n1 (.d (.tuple (rgD 0 k.toNat)))) : EJ C E X n ρ (tTupRg (tRg1 ta)) P := fun σ H Q I e x k =>
  h σ H _ I e x fun v y n1 H1 g1 i1 r1 ⟨j, ey, h0, h1, p⟩ => by
    subst ey
    have a := da_int r1
    subst a
    refine ⟨j, rfl, RgOk.of_le (Int.le_refl _) (by omega) (by decide) h0, fun q hq => ?_⟩
    obtain ⟨a, b, c⟩ := C.new (.tup (rgV 0 j)) i1 hq
    refine k _ (.d (.tuple (rgD 0 j.toNat))) n1 _ (C.trans g1 a) b (Rep.tup c ?_) p
    have z := dal_rg (H := C.vw (upd H1 q (.tup (rgV 0 j)))) 0 j
    rwa [Int.sub_zero] at z
theorem dal_rep {G : Hp} {xs : List V} {ds : List PyData} (h : DaL G xs ds) : ∀ m : Nat, DaL G (List.replicate m xs).flatten (List.replicate m ds).flatten
  | 0 => .nil
  | m + 1 => by
    rw [List.replicate_succ, List.replicate_succ, List.flatten_cons, List.flatten_cons]
    exact dal_app h (dal_rep h m)
/-- a tuple so many times -/
theorem e_repT {ta tb : TE} (h : EJ C E X n ρ ta fun n1 x => ∃ ds, x = .d (.tuple ds) ∧ EJ C E X n1 ρ tb fun n2 y => ∃ k : Int, y = .d (.int k) ∧ ds ≠ [] ∧ 2 ≤ k ∧ k ≤ 1000 ∧ ds.length ≤ 1000 ∧ P n2 (.d (.tuple (List.replicate k.toNat ds).flatten))) : EJ C E X n ρ (tOp (rRepT K) ta tb) P :=
  e_two (h.imp fun n1 x ⟨ds, e, q⟩ => by
    subst e
    refine q.imp fun n2 y ⟨k0, e, hn, h2, h3, hl, p⟩ => ?_
    subst e
    intro H2 v u Q I r1 r2 k
    obtain ⟨a, xs, rfl, ha, hx⟩ := da_tuple r1
    have b := da_int r2
    subst b
    refine ⟨a, k0, xs, rfl, rfl, SqT.of (C.sub _ _ ha), fun z => hn (by subst z; cases hx; rfl), h2, h3, by rw [hx.length]; exact hl, fun q hq => ?_⟩
    obtain ⟨a', b', c'⟩ := C.new (.tup (List.replicate k0.toNat xs).flatten) I hq
    refine k _ _ _ a' b' (Rep.tup c' (dal_rep (DaL.mono (C.vwm a') hx) _)) p)
theorem e_callS0 {s : SpD} {ta : TA} (h : AJ C E X n ρ ta fun n1 xs => s C n1 xs P noX) : EJ C E X n ρ (tCallS (spG s) (WE fun _ _ _ _ => False) ta) P := fun σ H Q I e x k =>
  h σ H _ I e x fun vs xs n1 H1 g1 i1 r1 p => ⟨C, n1, xs, P, noX, i1, r1, p, fun v y n2 H2 g2 i2 r2 p2 => k v y n2 H2 (C.trans g1 g2) i2 r2 p2, fun _ _ _ _ _ _ _ _ _ _ _ z => z.elim⟩
theorem SJ.nx' {t : TS} {N : Nat → Dv → Prop} (h : SJ C E X n ρ t { p with nx := N }) (k : ∀ n ρ, N n ρ → p.nx n ρ) : SJ C E X n ρ t p := fun σ H D I e x q =>
  h σ H D I e x ⟨fun a b c d g i en z => q.nx a b c d g i en (k _ _ z), q.rt, q.bk, q.ct⟩
end
end DC
set_option Elab.async false
set_option linter.all false
set_option maxRecDepth 100000
set_option maxHeartbeats 4000000
namespace DC
open PySem L2 Gd LamX
theorem tabs_sub {T : List (Addr × Str)} {G H : Hp} (s : ∀ b o, G b = some o → H b = some o) (t : Tabs T G) : Tabs T H := fun p hp => by
  obtain ⟨ps, t1, t2, t3⟩ := t p hp
  refine ⟨ps, s _ _ t1, t2, fun pos cv hc => ?_⟩
  obtain ⟨c, e1, e2⟩ := t3 pos cv hc
  exact ⟨c, e1, s _ _ e2⟩
/-- lambdas may be made -/
structure HasT (T : List (Addr × Str)) (C : Ctx) : Prop where
  get : ∀ {n H}, C.inv n H → Tabs T H
  ext : ∀ {n H H'}, C.inv n H → ExtN H H' → Tabs T H' → C.R H H' ∧ C.inv n H'
theorem hasT_tab (T : List (Addr × Str)) (C0 : Ctx) : HasT T (tabC T C0) := ⟨fun i => i.2, fun i e t => tab_ext i e t⟩
theorem HasT.hide {T : List (Addr × Str)} {C : Ctx} {D : Addr} (h : HasT T C) : HasT T (hideC C D) where
  get := fun i => tabs_sub (fun b o q => (off_some q).2) (h.get i.1)
  ext := fun {n H H'} i e t => by
    obtain ⟨i, ⟨xs, hx, hnt⟩, hd⟩ := i
    have hx' : H' D = some xs := e _ _ hx (dataO.nt hnt)
    have e' : ExtN (off H D) (off H' D) := fun b o q nt => by
      obtain ⟨q1, q2⟩ := off_some q
      rw [off_ne q1]
      exact e b o q2 nt
    have t' : Tabs T (off H' D) := fun p hp => by
      obtain ⟨ps, t1, t2, t3⟩ := t p hp
      refine ⟨ps, by rw [off_ne (fun z => by rw [z, hx'] at t1; rw [Option.some.inj t1] at hnt; cases hnt)]; exact t1, t2, fun pos cv hc => ?_⟩
      obtain ⟨c, e1, e2⟩ := t3 pos cv hc
      exact ⟨c, e1, by rw [off_ne (fun z => by rw [z, hx'] at e2; rw [Option.some.inj e2] at hnt; cases hnt)]; exact e2⟩
    obtain ⟨a, b⟩ := h.ext i e' t'
    refine ⟨⟨a, fun o q => ?_⟩, b, ⟨xs, hx', hnt⟩, hd⟩
    rw [hx] at q
    cases q
    exact hx'
theorem e_saidT {T : List (Addr × Str)} {C : Ctx} {E : XK} {X : XP} {n : Nat} {ρ : Dv} {t : XK → TE} {P : Nat → DVal → Prop} {Gd : Oc → Prop} (hT : HasT T C)
    (h : ∃ z, Gd z ∧ (∀ (E' : XK) (P' : Nat → DVal → Prop) (X' : XP), (OutD z n P' X') → EJ C E' X' n ρ (t E') P') ∧ P n (.d z.said)) : EJ C E X n ρ (tLam T (TTd Gd) t) P := fun σ H Q I e x k => by
  obtain ⟨z, hg, hz, hp⟩ := h
  refine ⟨hT.get I, fun H1 e1 t1 => ?_⟩
  obtain ⟨r1, i1⟩ := hT.ext I e1 t1
  refine ⟨C, n, z, i1, hg, fun Qc Ec o => ?_, fun r H' g i rp => k r (.d z.said) n H' (C.trans r1 g) i rp hp⟩
  cases z with
  | ok d =>
    refine hz Ec (fun n' y => n' = n ∧ y = .d d) (fun _ _ _ _ => False) ⟨rfl, rfl⟩ σ H1 Qc i1 (e.up r1) (fun _ _ _ _ _ _ _ _ _ _ _ q => q.elim) fun v y n' H' g i rp ⟨hn, hy⟩ => ?_
    subst hn hy
    exact o v H' g i rp
  | exc cls f tag d =>
    refine hz Ec (fun _ _ => False) (fun n' c f' d' => n' = n ∧ c = cls ∧ f' = f ∧ d' = d) ⟨rfl, rfl, rfl, rfl⟩ σ H1 Qc i1 (e.up r1) (fun c f' dd v d' n' H' g i q1 q2 ⟨a0, a1, a2, a3⟩ => ?_) fun v y n' H' g i rp q => q.elim
    subst a0 a1 a2 a3
    exact o v dd H' g i q1 q2
theorem upd_off' {H : Hp} {m : Addr} {o : HO} : upd (off H m) m o = upd H m o := by
  funext b
  by_cases e : b = m
  · rw [e, upd_same, upd_same]
  · rw [upd_ne e, upd_ne e, off_ne e]
section
variable {C : Ctx} {E : XK} {X : XP} {n : Nat} {ρ : Dv} {K : PySem.W.Frag} {p : Post}
/-- x = [..]; x.append(e) -/
theorem s_app {i : Nat} {ta : TA} {tb : TE} {u : TS} (hi : i < ρ.length)
    (h : AJ C E X n ρ ta fun n1 xs => ∃ ds, unD xs = some ds ∧ ds.length ≤ 5000 ∧ ∀ q, EJ (hideC C q) E noX n1 (ρ.set i (some (.h (.ref q)))) tb fun n2 y => ∃ d, y = .d d ∧ SJ C E X n2 (ρ.set i (some (.d (.list (ds ++ [d]))))) u p) :
    SJ C E X n ρ (tSeq (tAsg (tLst ta) (gName i)) (tSeq (tDrop (tBM K "list" rAppend (tVar i) (tCons tb tNil))) u)) p := fun σ H D I e x k =>
  h σ H _ I e x fun vs xs n1 H1 g1 i1 r1 ⟨ds, hd, hl, pp⟩ => by
    have hv := unD_da hd r1
    refine ⟨slz (hv.length ▸ hl), fun q hq => ?_⟩
    have o0 : off (upd H1 q (.lst vs)) q = H1 := by rw [off_upd_at, off_none hq]
    have ih : (hideC C q).inv n1 (upd H1 q (.lst vs)) := ⟨by rw [o0]; exact i1, ⟨_, upd_same, rfl⟩, nohid i1 hq⟩
    have en : En (hideC C q) (upd H1 q (.lst vs)) σ ρ := en_hide (by rw [o0]; exact e.up g1)
    have en2 : En (hideC C q) (upd H1 q (.lst vs)) (σ.set i (some (.ref q))) (ρ.set i (some (.h (.ref q)))) := en.set (x := .h (.ref q)) rfl
    have hσ : i < σ.length := by rw [e.len]; exact hi
    refine ⟨.ref q, by rw [List.getElem?_set_self hσ], .inl ⟨rfl, vs, SqL.of upd_same⟩, ?_⟩
    refine pp q _ _ _ ih en2 (fun _ _ _ _ _ _ _ _ _ _ _ z => z.elim) fun w y n2 H3 g3 i3 r3 ⟨d, ey, s⟩ => ?_
    subst ey
    have q3 : H3 q = some (.lst vs) := g3.2 _ upd_same
    refine ⟨q, vs, w, rfl, rfl, q3, ?_, ?_⟩
    · rw [hv.length, sizeLine_eq]
      exact Nat.lt_of_lt_of_le (show ds.length < 5001 by omega) (by decide)
    · obtain ⟨a, b, c⟩ := C.new (.lst (vs ++ [w])) i3.1 (off_at (H := H3) (m := q))
      rw [upd_off'] at a b c
      have g13 : C.R H1 (off H3 q) := by
        have := g3.1
        rwa [o0] at this
      have g14 := C.trans g13 a
      have gA := C.trans g1 g14
      have r3' : Da (C.vw (off H3 q)) w d := r3
      refine s _ _ D b ((e.up gA).set (x := .d (.list (ds ++ [d]))) (Rep.lst c (dal_app (hv.mono (C.vwm g14)) (.cons (Da.mono (C.vwm a) r3') .nil)))) (x.up gA) (k.up gA)
end
end DC
set_option Elab.async false
set_option linter.all false
set_option maxRecDepth 100000
set_option maxHeartbeats 4000000
namespace DC
open PySem L2 Gd LamX
/-! ### what is one's own: a list of addresses is hidden, and may change -/
def offL (H : Hp) (S : List Addr) : Hp := fun b => if b ∈ S then none else H b
theorem offL_in {H : Hp} {S : List Addr} {b : Addr} (h : b ∈ S) : offL H S b = none := if_pos h
theorem offL_out {H : Hp} {S : List Addr} {b : Addr} (h : b ∉ S) : offL H S b = H b := if_neg h
theorem offL_some {H : Hp} {S : List Addr} {b : Addr} {o : HO} (h : offL H S b = some o) : b ∉ S ∧ H b = some o := by
  by_cases e : b ∈ S
  · rw [offL_in e] at h; cases h
  · rw [offL_out e] at h; exact ⟨e, h⟩
theorem offL_mono {G H : Hp} {S : List Addr} (h : ∀ b o, G b = some o → H b = some o) : ∀ b o, offL G S b = some o → offL H S b = some o := fun b o e => by
  obtain ⟨h1, h2⟩ := offL_some e
  rw [offL_out h1]; exact h b o h2
theorem offL_nil (H : Hp) : offL H [] = H := by funext b; exact offL_out (by simp)
theorem offL_upd {H : Hp} {S : List Addr} {p : Addr} {o : HO} (h : p ∉ S) : offL (upd H p o) S = upd (offL H S) p o := by
  funext b
  by_cases e : b = p
  · rw [e, upd_same, offL_out h, upd_same]
  · rw [upd_ne e]
    by_cases e2 : b ∈ S
    · rw [offL_in e2, offL_in e2]
    · rw [offL_out e2, offL_out e2, upd_ne e]
theorem offL_upd_in {H : Hp} {S : List Addr} {p : Addr} {o : HO} (h : p ∈ S) : offL (upd H p o) S = offL H S := by
  funext b
  by_cases e : b ∈ S
  · rw [offL_in e, offL_in e]
  · rw [offL_out e, offL_out e, upd_ne (fun z => e (by rw [z]; exact h))]
def ownC (C : Ctx) (S : List Addr) : Ctx where
  vw := fun H => C.vw (offL H S)
  inv := fun n H => C.inv n (offL H S) ∧ ∀ a ∈ S, (∃ o, H a = some o ∧ dataO o = true) ∧ ¬ C.hid a
  R := fun H H' => C.R (offL H S) (offL H' S) ∧ ∀ a o, a ∈ S → H a = some o → H' a = some o
  refl := fun H => ⟨C.refl _, fun _ _ _ h => h⟩
  trans := fun a b => ⟨C.trans a.1 b.1, fun c o hc h => b.2 c o hc (a.2 c o hc h)⟩
  vwm := fun g => C.vwm g.1
  sub := fun _ _ h => (offL_some (C.sub _ _ h)).2
  mono := fun h => C.mono (offL_mono h)
  new := fun {n H p} o i h hn => by
    have hp : p ∉ S := fun z => by
      obtain ⟨⟨u, e, _⟩, _⟩ := i.2 p z
      rw [h] at e; cases e
    have h' : offL H S p = none := by rw [offL_out hp]; exact h
    obtain ⟨a, b, c⟩ := C.new o i.1 h' hn
    rw [offL_upd hp]
    refine ⟨⟨a, fun c u hc e => by rw [upd_ne (fun z => hp (by rw [← z]; exact hc))]; exact e⟩, ⟨b, fun c hc => ?_⟩, c⟩
    obtain ⟨⟨u, e, hu⟩, hh⟩ := i.2 c hc
    exact ⟨⟨u, by rw [upd_ne (fun z => hp (by rw [← z]; exact hc))]; exact e, hu⟩, hh⟩
  same := fun {n H H'} i s => by
    obtain ⟨a, b⟩ := C.same i.1 (H' := offL H' S) (offL_mono s)
    refine ⟨⟨a, fun c o _ e => s _ _ e⟩, b, fun c hc => ?_⟩
    obtain ⟨⟨u, e, hu⟩, hh⟩ := i.2 c hc
    exact ⟨⟨u, s _ _ e, hu⟩, hh⟩
  fresh := fun {n H H' b o} i s h e hn => by
    have hb : b ∉ S := fun z => by
      obtain ⟨⟨u, e, _⟩, _⟩ := i.2 b z
      rw [h] at e; cases e
    exact C.fresh i.1 (H' := offL H' S) (offL_mono s) (by rw [offL_out hb]; exact h) (by rw [offL_out hb]; exact e) hn
  hid := fun a => C.hid a ∨ a ∈ S
  kept := fun {H H' a o} r h e hn => by
    by_cases q : a ∈ S
    · exact r.2 a o q e
    · have := C.kept r.1 (h.resolve_right q) (show offL H S a = some o by rw [offL_out q]; exact e) hn
      rwa [offL_out q] at this
  live := fun {n H a} i h => by
    rcases h with h | h
    · obtain ⟨o, e, hn⟩ := C.live i.1 h
      exact ⟨o, (offL_some e).2, hn⟩
    · exact (i.2 a h).1
theorem mok_offL {H : Hp} {m c : Addr} {S : List Addr} {n : Nat} (M : MOk H m c n) (h1 : m ∉ S) (h2 : c ∉ S) : MOk (offL H S) m c n := by
  obtain ⟨l, sd, sp, cs, e1, e2, r⟩ := M.ex
  exact ⟨l, sd, sp, cs, by rw [offL_out h1]; exact e1, by rw [offL_out h2]; exact e2, r⟩
theorem mokL_in {H : Hp} {m c : Addr} {S : List Addr} {n : Nat} (M : MOk (offL H S) m c n) : MOk H m c n ∧ m ∉ S ∧ c ∉ S := by
  obtain ⟨l, sd, sp, cs, e1, e2, r⟩ := M.ex
  obtain ⟨a1, a2⟩ := offL_some e1
  obtain ⟨b1, b2⟩ := offL_some e2
  exact ⟨⟨l, sd, sp, cs, a2, b2, r⟩, a1, b1⟩
theorem HasM.own {C : Ctx} {m c : Addr} {S : List Addr} (h : HasM C m c) : HasM (ownC C S) m c where
  get := fun i => (mokL_in (h.get i.1)).1
  put := fun {n n' H H'} i M g => by
    obtain ⟨_, d1, d2⟩ := mokL_in (h.get i.1)
    have g' : Grow m (offL H S) (offL H' S) := fun b o hb e => by
      obtain ⟨q1, q2⟩ := offL_some e
      rw [offL_out q1]; exact g b o hb q2
    obtain ⟨a, b⟩ := h.put i.1 (mok_offL M d1 d2) g'
    refine ⟨⟨a, fun c o hc e => g _ _ (fun z => d1 (by rw [← z]; exact hc)) e⟩, b, fun c hc => ?_⟩
    obtain ⟨⟨u, e, hu⟩, hh⟩ := i.2 c hc
    exact ⟨⟨u, g _ _ (fun z => d1 (by rw [← z]; exact hc)) e, hu⟩, hh⟩
theorem HasT.own {T : List (Addr × Str)} {C : Ctx} {S : List Addr} (h : HasT T C) : HasT T (ownC C S) where
  get := fun i => tabs_sub (fun b o q => (offL_some q).2) (h.get i.1)
  ext := fun {n H H'} i e t => by
    have k : ∀ a ∈ S, ∀ o, H a = some o → dataO o = true → H' a = some o := fun a _ o q d => e _ _ q (dataO.nt d)
    have e' : ExtN (offL H S) (offL H' S) := fun b o q nt => by
      obtain ⟨q1, q2⟩ := offL_some q
      rw [offL_out q1]
      exact e b o q2 nt
    have t' : Tabs T (offL H' S) := fun p hp => by
      obtain ⟨ps, t1, t2, t3⟩ := t p hp
      have no : ∀ b o, H' b = some o → dataO o = false → b ∉ S := fun b o q d z => by
        obtain ⟨⟨u, e1, hu⟩, _⟩ := i.2 b z
        rw [k b z u e1 hu] at q
        rw [Option.some.inj q, d] at hu
        cases hu
      refine ⟨ps, by rw [offL_out (no _ _ t1 rfl)]; exact t1, t2, fun pos cv hc => ?_⟩
      obtain ⟨c, e1, e2⟩ := t3 pos cv hc
      exact ⟨c, e1, by rw [offL_out (no _ _ e2 rfl)]; exact e2⟩
    obtain ⟨a, b⟩ := h.ext i.1 e' t'
    refine ⟨⟨a, fun c o hc q => ?_⟩, b, fun c hc => ?_⟩
    · obtain ⟨⟨u, e1, hu⟩, _⟩ := i.2 c hc
      rw [q] at e1
      cases e1
      exact k c hc o q hu
    · obtain ⟨⟨u, e1, hu⟩, hh⟩ := i.2 c hc
      exact ⟨⟨u, k c hc u e1 hu, hu⟩, hh⟩
theorem Le.hasT {T : List (Addr × Str)} {C C' : Ctx} (l : Le C C') (h : HasT T C) : HasT T C' := by
  rcases l.ex with e | ⟨D, e⟩
  · rw [e]; exact h
  · rw [e]; exact h.hide
/-- what was hidden is told: nothing is lost -/
theorem unhide {C : Ctx} : ∀ {S T : List Addr} {n : Nat} {H : Hp}, (ownC C S).inv n H → (∀ a ∈ T, a ∈ S) → C.R (offL H S) (offL H T) ∧ (ownC C T).inv n H ∧ ∀ a ∈ S, a ∉ T → ∀ o, H a = some o → C.vw (offL H T) a = some o
  | [], T, n, H, i, h => by
    have e : T = [] := by
      cases T with
      | nil => rfl
      | cons a r => exact absurd (h a List.mem_cons_self) (by simp)
    subst e
    exact ⟨C.refl _, i, fun a ha => by cases ha⟩
  | b :: S, T, n, H, i, h => by
    by_cases hb : b ∈ S
    · have e : offL H (b :: S) = offL H S := by
        funext x
        unfold offL
        by_cases hx : x ∈ S
        · rw [if_pos hx, if_pos (List.mem_cons_of_mem _ hx)]
        · rw [if_neg hx, if_neg (fun z => by
            rcases List.mem_cons.mp z with z | z
            · exact hx (z ▸ hb)
            · exact hx z)]
      have i' : (ownC C S).inv n H := ⟨by have := i.1; rwa [e] at this, fun a ha => i.2 a (List.mem_cons_of_mem _ ha)⟩
      have h' : ∀ a ∈ T, a ∈ S := fun a ha => by
        rcases List.mem_cons.mp (h a ha) with z | z
        · exact z ▸ hb
        · exact z
      rw [e]
      obtain ⟨r1, r2, r3⟩ := unhide i' h'
      refine ⟨r1, r2, fun a ha => r3 a ?_⟩
      rcases List.mem_cons.mp ha with z | z
      · exact z ▸ hb
      · exact z
    · by_cases hT : b ∈ T
      · -- b stays hidden
        have key := @unhide (hideC C b) S (T.filter (fun x => decide (x ≠ b))) n H ?_ ?_
        · obtain ⟨r1, r2, r3⟩ := key
          have e1 : off (offL H S) b = offL H (b :: S) := by
            funext x
            by_cases hx : x = b
            · rw [hx, off_at, offL_in List.mem_cons_self]
            · rw [off_ne hx]
              unfold offL
              by_cases hx2 : x ∈ S
              · rw [if_pos hx2, if_pos (List.mem_cons_of_mem _ hx2)]
              · rw [if_neg hx2, if_neg (fun z => by
                  rcases List.mem_cons.mp z with z | z
                  · exact hx z
                  · exact hx2 z)]
          have e2 : off (offL H (T.filter (fun x => decide (x ≠ b)))) b = offL H T := by
            funext x
            by_cases hx : x = b
            · rw [hx, off_at, offL_in hT]
            · rw [off_ne hx]
              unfold offL
              by_cases hx2 : x ∈ T
              · rw [if_pos hx2, if_pos (List.mem_filter.mpr ⟨hx2, by simpa using hx⟩)]
              · rw [if_neg hx2, if_neg (fun z => hx2 (List.mem_filter.mp z).1)]
          have q1 := r1.1
          rw [e1, e2] at q1
          refine ⟨q1, ⟨by have := r2.1.1; rwa [e2] at this, fun a ha => i.2 a (h a ha)⟩, fun a ha haT o hao => ?_⟩
          have hab : a ≠ b := fun z => haT (z ▸ hT)
          have haS : a ∈ S := by
            rcases List.mem_cons.mp ha with z | z
            · exact absurd z hab
            · exact z
          have q3 : C.vw (off (offL H (T.filter (fun x => decide (x ≠ b)))) b) a = some o := r3 a haS (fun z => haT (List.mem_filter.mp z).1) o hao
          rwa [e2] at q3
        · have e1 : off (offL H S) b = offL H (b :: S) := by
            funext x
            by_cases hx : x = b
            · rw [hx, off_at, offL_in List.mem_cons_self]
            · rw [off_ne hx]
              unfold offL
              by_cases hx2 : x ∈ S
              · rw [if_pos hx2, if_pos (List.mem_cons_of_mem _ hx2)]
              · rw [if_neg hx2, if_neg (fun z => by
                  rcases List.mem_cons.mp z with z | z
                  · exact hx z
                  · exact hx2 z)]
          obtain ⟨⟨u, eb, ub⟩, hh⟩ := i.2 b List.mem_cons_self
          exact ⟨⟨by rw [e1]; exact i.1, ⟨u, by rw [offL_out hb]; exact eb, ub⟩, hh⟩, fun a ha => i.2 a (List.mem_cons_of_mem _ ha)⟩
        · intro a ha
          obtain ⟨h1, h2⟩ := List.mem_filter.mp ha
          rcases List.mem_cons.mp (h a h1) with z | z
          · exact absurd z (by simpa using h2)
          · exact z
      · -- b is told
        obtain ⟨⟨u, eb, ub⟩, hh⟩ := i.2 b List.mem_cons_self
        have hn0 : offL H (b :: S) b = none := offL_in List.mem_cons_self
        obtain ⟨g, j, v⟩ := C.new u i.1 hn0 (dataO.nt ub)
        have e1 : upd (offL H (b :: S)) b u = offL H S := by
          funext x
          by_cases hx : x = b
          · rw [hx, upd_same, offL_out hb, eb]
          · rw [upd_ne hx]
            unfold offL
            by_cases hx2 : x ∈ S
            · rw [if_pos hx2, if_pos (List.mem_cons_of_mem _ hx2)]
            · rw [if_neg hx2, if_neg (fun z => by
                rcases List.mem_cons.mp z with z | z
                · exact hx z
                · exact hx2 z)]
        rw [e1] at g j v
        obtain ⟨r1, r2, r3⟩ := unhide (C := C) (S := S) (T := T) ⟨j, fun a ha => i.2 a (List.mem_cons_of_mem _ ha)⟩ fun a ha => by
          rcases List.mem_cons.mp (h a ha) with z | z
          · exact absurd (z ▸ ha) hT
          · exact z
        refine ⟨C.trans g r1, r2, fun a ha haT o hao => ?_⟩
        rcases List.mem_cons.mp ha with z | z
        · subst z
          rw [eb] at hao
          cases hao
          exact C.vwm r1 _ _ v
        · exact r3 a z haT o hao
end DC
set_option Elab.async false
set_option linter.all false
set_option maxRecDepth 100000
set_option maxHeartbeats 4000000
namespace DC
open PySem L2 Gd LamX
/-! ### what a piece of the program does to data: a tree over the draws -/
/-- what of the exceptions is wanted, the classes by their numbers -/
abbrev XN := Nat → Nat → Str → PyData → Prop
inductive T (α : Type) where
  | ret (a : α)
  | exc (c : Nat) (f : Str) (d : PyData)
  | draw (m : V) (many : Int) (k : Int → T α)
  | stuck
namespace T
def bind {α β : Type} (t : T α) (f : α → T β) : T β := match t with
  | .ret a => f a
  | .exc c x d => .exc c x d
  | .draw m many k => .draw m many fun r => bind (k r) f
  | .stuck => .stuck
/-- nothing is raised -/
def nox {α : Type} : T α → T α
  | .ret a => .ret a
  | .exc _ _ _ => .stuck
  | .draw m many k => .draw m many fun r => nox (k r)
  | .stuck => .stuck
def wp {α : Type} (M : V → Prop) : T α → Nat → (Nat → α → Prop) → XN → Prop
  | .ret a, n, P, _ => P n a
  | .exc c f d, n, _, X => X n c f d
  | .draw m many k, n, P, X => M m ∧ n ≤ 100000 ∧ 0 < many ∧ many.natAbs < 2 ^ 8000 ∧ ∀ r, 0 ≤ r → r < many → wp M (k r) (n + 1) P X
  | .stuck, _, _, _ => False
@[simp] theorem bind_ret {α β : Type} (a : α) (f : α → T β) : bind (.ret a) f = f a := rfl
@[simp] theorem bind_exc {α β : Type} {c : Nat} {x : Str} {d : PyData} (f : α → T β) : bind (.exc c x d) f = .exc c x d := rfl
@[simp] theorem bind_stuck {α β : Type} (f : α → T β) : bind .stuck f = .stuck := rfl
@[simp] theorem bind_draw {α β : Type} {m : V} {many : Int} {k : Int → T α} (f : α → T β) : bind (.draw m many k) f = .draw m many fun r => bind (k r) f := rfl
@[simp] theorem nox_ret {α : Type} (a : α) : nox (.ret a) = .ret a := rfl
@[simp] theorem nox_exc {α : Type} {c : Nat} {x : Str} {d : PyData} : nox (.exc c x d : T α) = .stuck := rfl
@[simp] theorem nox_stuck {α : Type} : nox (.stuck : T α) = .stuck := rfl
@[simp] theorem nox_draw {α : Type} {m : V} {many : Int} {k : Int → T α} : nox (.draw m many k) = .draw m many fun r => nox (k r) := rfl
@[simp] theorem wp_ret {α : Type} {M : V → Prop} {a : α} {n : Nat} {P : Nat → α → Prop} {X : XN} : wp M (.ret a) n P X = P n a := rfl
@[simp] theorem wp_exc {α : Type} {M : V → Prop} {c : Nat} {x : Str} {d : PyData} {n : Nat} {P : Nat → α → Prop} {X : XN} : wp M (.exc c x d) n P X = X n c x d := rfl
@[simp] theorem wp_stuck {α : Type} {M : V → Prop} {n : Nat} {P : Nat → α → Prop} {X : XN} : wp M .stuck n P X = False := rfl
@[simp] theorem wp_draw {α : Type} {M : V → Prop} {m : V} {many : Int} {k : Int → T α} {n : Nat} {P : Nat → α → Prop} {X : XN} : wp M (.draw m many k) n P X = (M m ∧ n ≤ 100000 ∧ 0 < many ∧ many.natAbs < 2 ^ 8000 ∧ ∀ r, 0 ≤ r → r < many → wp M (k r) (n + 1) P X) := rfl
theorem wp_bind {α β : Type} {M : V → Prop} {X : XN} {f : α → T β} : ∀ {t : T α} {n : Nat} {P : Nat → β → Prop}, wp M (bind t f) n P X ↔ wp M t n (fun n1 a => wp M (f a) n1 P X) X
  | .ret _, _, _ => Iff.rfl
  | .exc _ _ _, _, _ => Iff.rfl
  | .draw m many k, n, P => by
    show (_ ∧ _ ∧ _ ∧ _ ∧ ∀ r, 0 ≤ r → r < many → wp M (bind (k r) f) (n + 1) P X) ↔ (_ ∧ _ ∧ _ ∧ _ ∧ ∀ r, 0 ≤ r → r < many → wp M (k r) (n + 1) (fun n1 a => wp M (f a) n1 P X) X)
    constructor
    · rintro ⟨a, b, c, d, h⟩
      exact ⟨a, b, c, d, fun r r0 r1 => wp_bind.mp (h r r0 r1)⟩
    · rintro ⟨a, b, c, d, h⟩
      exact ⟨a, b, c, d, fun r r0 r1 => wp_bind.mpr (h r r0 r1)⟩
  | .stuck, _, _ => Iff.rfl
theorem wp.imp {α : Type} {M M' : V → Prop} {X X' : XN} (hM : ∀ v, M v → M' v) : ∀ {t : T α} {n : Nat} {P P' : Nat → α → Prop}, wp M t n P X → (∀ n a, P n a → P' n a) → (∀ n c f d, X n c f d → X' n c f d) → wp M' t n P' X'
  | .ret _, _, _, _, h, hP, _ => hP _ _ h
  | .exc _ _ _, _, _, _, h, _, hX => hX _ _ _ _ h
  | .draw m many k, n, P, P', h, hP, hX => by
    obtain ⟨a, b, c, d, h⟩ := h
    exact ⟨hM _ a, b, c, d, fun r r0 r1 => (h r r0 r1).imp hM hP hX⟩
  | .stuck, _, _, _, h, _, _ => h.elim
theorem wp.mono {α : Type} {M : V → Prop} {X : XN} {t : T α} {n : Nat} {P P' : Nat → α → Prop} (h : wp M t n P X) (hP : ∀ n a, P n a → P' n a) : wp M t n P' X := h.imp (fun _ h => h) hP (fun _ _ _ _ h => h)
theorem wp_nox {α : Type} {M : V → Prop} {X X' : XN} : ∀ {t : T α} {n : Nat} {P : Nat → α → Prop}, wp M (nox t) n P X → wp M t n P X'
  | .ret _, _, _, h => h
  | .exc _ _ _, _, _, h => h.elim
  | .draw m many k, n, P, h => by
    obtain ⟨a, b, c, d, h⟩ := h
    exact ⟨a, b, c, d, fun r r0 r1 => wp_nox (h r r0 r1)⟩
  | .stuck, _, _, h => h.elim
theorem wp_nox_any {α : Type} {M : V → Prop} {X X' : XN} : ∀ {t : T α} {n : Nat} {P : Nat → α → Prop}, wp M (nox t) n P X → wp M (nox t) n P X'
  | .ret _, _, _, h => h
  | .exc _ _ _, _, _, h => h.elim
  | .draw m many k, n, P, h => by
    obtain ⟨a, b, c, d, h⟩ := h
    exact ⟨a, b, c, d, fun r r0 r1 => wp_nox_any (h r r0 r1)⟩
  | .stuck, _, _, h => h.elim
theorem bind_assoc {α β γ : Type} {f : α → T β} {g : β → T γ} : ∀ {t : T α}, bind (bind t f) g = bind t fun a => bind (f a) g
  | .ret _ => rfl
  | .exc _ _ _ => rfl
  | .draw m many k => by
    show T.draw m many _ = T.draw m many _
    congr 1
    funext r
    exact bind_assoc
  | .stuck => rfl
@[simp] theorem bind_ite {α β : Type} {c : Prop} [Decidable c] {t u : T α} {f : α → T β} : bind (if c then t else u) f = if c then bind t f else bind u f := by split <;> rfl
@[simp] theorem nox_ite {α : Type} {c : Prop} [Decidable c] {t u : T α} : nox (if c then t else u) = if c then nox t else nox u := by split <;> rfl
end T
/-! ### data of a kind -/
def asI {α : Type} (x : DVal) (k : Int → T α) : T α := match x with
  | .d (.int i) => k i
  | _ => .stuck
def asB {α : Type} (x : DVal) (k : Bool → T α) : T α := match x with
  | .d (.bool i) => k i
  | _ => .stuck
def asD {α : Type} (x : DVal) (k : PyData → T α) : T α := match x with
  | .d i => k i
  | _ => .stuck
def asT {α : Type} (x : DVal) (k : List PyData → T α) : T α := match x with
  | .d (.tuple i) => k i
  | _ => .stuck
def asL {α : Type} (x : DVal) (k : List PyData → T α) : T α := match x with
  | .d (.list i) => k i
  | _ => .stuck
/-- a list, one's own too -/
def asLo {α : Type} (x : DVal) (k : List PyData → T α) : T α := match x with
  | .d (.list i) => k i
  | .o (.l i) => k i
  | _ => .stuck
/-- a list or a tuple -/
def asQ {α : Type} (x : DVal) (k : List PyData → T α) : T α := match x with
  | .d (.list i) => k i
  | .d (.tuple i) => k i
  | .o (.l i) => k i
  | _ => .stuck
@[simp] theorem asI_0 {α : Type} (i : Int) (k : Int → T α) : asI (.d (.int i)) k = k i := rfl
@[simp] theorem asB_0 {α : Type} (i : Bool) (k : Bool → T α) : asB (.d (.bool i)) k = k i := rfl
@[simp] theorem asD_0 {α : Type} (i : PyData) (k : PyData → T α) : asD (.d i) k = k i := rfl
@[simp] theorem asT_0 {α : Type} (i : List PyData) (k : List PyData → T α) : asT (.d (.tuple i)) k = k i := rfl
@[simp] theorem asL_0 {α : Type} (i : List PyData) (k : List PyData → T α) : asL (.d (.list i)) k = k i := rfl
@[simp] theorem asLo_0 {α : Type} (i : List PyData) (k : List PyData → T α) : asLo (.d (.list i)) k = k i := rfl
@[simp] theorem asLo_1 {α : Type} (i : List PyData) (k : List PyData → T α) : asLo (.o (.l i)) k = k i := rfl
@[simp] theorem asQ_0 {α : Type} (i : List PyData) (k : List PyData → T α) : asQ (.d (.list i)) k = k i := rfl
@[simp] theorem asQ_1 {α : Type} (i : List PyData) (k : List PyData → T α) : asQ (.d (.tuple i)) k = k i := rfl
@[simp] theorem asQ_2 {α : Type} (i : List PyData) (k : List PyData → T α) : asQ (.o (.l i)) k = k i := rfl
section
variable {α : Type} {M : V → Prop} {n : Nat} {P : Nat → α → Prop} {X : XN} {x : DVal}
theorem asI_x {k : Int → T α} (h : (asI x k).wp M n P X) : ∃ i, x = .d (.int i) ∧ (k i).wp M n P X := by
  match x, h with
  | .d (.int i), h => exact ⟨i, rfl, h⟩
theorem asB_x {k : Bool → T α} (h : (asB x k).wp M n P X) : ∃ i, x = .d (.bool i) ∧ (k i).wp M n P X := by
  match x, h with
  | .d (.bool i), h => exact ⟨i, rfl, h⟩
theorem asD_x {k : PyData → T α} (h : (asD x k).wp M n P X) : ∃ i, x = .d i ∧ (k i).wp M n P X := by
  match x, h with
  | .d i, h => exact ⟨i, rfl, h⟩
theorem asT_x {k : List PyData → T α} (h : (asT x k).wp M n P X) : ∃ i, x = .d (.tuple i) ∧ (k i).wp M n P X := by
  match x, h with
  | .d (.tuple i), h => exact ⟨i, rfl, h⟩
theorem asL_x {k : List PyData → T α} (h : (asL x k).wp M n P X) : ∃ i, x = .d (.list i) ∧ (k i).wp M n P X := by
  match x, h with
  | .d (.list i), h => exact ⟨i, rfl, h⟩
theorem asLo_x {k : List PyData → T α} (h : (asLo x k).wp M n P X) : ∃ i, (x = .d (.list i) ∨ x = .o (.l i)) ∧ (k i).wp M n P X := by
  match x, h with
  | .d (.list i), h => exact ⟨i, .inl rfl, h⟩
  | .o (.l i), h => exact ⟨i, .inr rfl, h⟩
theorem asQ_x {k : List PyData → T α} (h : (asQ x k).wp M n P X) : ∃ i, seqOf x = some i ∧ (k i).wp M n P X := by
  match x, h with
  | .d (.list i), h => exact ⟨i, rfl, h⟩
  | .d (.tuple i), h => exact ⟨i, rfl, h⟩
  | .o (.l i), h => exact ⟨i, rfl, h⟩
/-- a condition that can be looked up -/
@[simp] def need (b : Bool) (t : T α) : T α := if b = true then t else .stuck
theorem need_x {b : Bool} {t : T α} (h : (need b t).wp M n P X) : b = true ∧ t.wp M n P X := by
  unfold need at h
  split at h
  · next e => exact ⟨e, h⟩
  · exact h.elim
theorem need_t {t : T α} : need true t = t := rfl
end
/-! ### readings told by functions -/
abbrev VE := Dv → T DVal
abbrev VT := Dv → T Bool
abbrev VA := Dv → T (List DVal)
abbrev VI := Dv → T (List PyData)
abbrev VO := Dv → T (Option Int)
def MM (C : Ctx) (v : V) : Prop := ∃ a c, v = .ref a ∧ HasM C a c
theorem MM.le {C C' : Ctx} (l : Le C C') : ∀ v, MM C v → MM C' v := fun v ⟨a, c, e, h⟩ => ⟨a, c, e, l.m h⟩
section
variable (Ts : List (Addr × Str)) (cm : Nat → Addr) (E : XK)
def xn (X : XP) : XN := fun n c f d => X n (cm c) f d
def Snd (t : TE) (f : VE) : Prop := ∀ (C : Ctx) (X : XP) (n : Nat) (ρ : Dv) (P : Nat → DVal → Prop), HasT Ts C → (f ρ).wp (MM C) n P (xn cm X) → EJ C E X n ρ t P
def SndT (t : TT) (f : VT) : Prop := ∀ (C : Ctx) (X : XP) (n : Nat) (ρ : Dv) (P : Nat → Bool → Prop), HasT Ts C → (f ρ).wp (MM C) n P (xn cm X) → TJ C E X n ρ t P
def SndA (t : TA) (f : VA) : Prop := ∀ (C : Ctx) (X : XP) (n : Nat) (ρ : Dv) (P : Nat → List DVal → Prop), HasT Ts C → (f ρ).wp (MM C) n P (xn cm X) → AJ C E X n ρ t P
def SndI (t : TI) (f : VI) : Prop := ∀ (C : Ctx) (X : XP) (n : Nat) (ρ : Dv) (P : Nat → List PyData → Prop), HasT Ts C → (f ρ).wp (MM C) n P (xn cm X) → IJ C E X n ρ t P
def SndO (t : TO) (f : VO) : Prop := ∀ (C : Ctx) (X : XP) (n : Nat) (ρ : Dv) (P : Nat → Option Int → Prop), HasT Ts C → (f ρ).wp (MM C) n P (xn cm X) → OJ C E X n ρ t P
end
theorem xn_no {cm : Nat → Addr} {M : V → Prop} {α : Type} {t : T α} {n : Nat} {P : Nat → α → Prop} {X : XN} (h : t.nox.wp M n P X) : t.nox.wp M n P (xn cm noX) := T.wp_nox_any h
end DC
set_option Elab.async false
set_option linter.all false
set_option maxRecDepth 100000
set_option maxHeartbeats 4000000
namespace DC
open PySem L2 Gd PySem.ExG
/-! ### enumerate of a list or a tuple -/
def iEnS (K : PySem.W.Frag) (ta : TA) : TI := fun σ H R => iEnT K ta σ H R ∨ iEnum K ta σ H R
theorem pi_enS {X : Cx} {e : Expr} {ta : TA} {p pos tpos : Pos} {elts : List Expr} {kk : Nat} (hg : Gl X "enumerate") (hm : X.mg "enumerate" = none) (ha : PA X [e] ta)
    (hs : starEach [e] X.env = [(false, eval e X.env)] := by rfl) :
    PI X (.Tuple elts kk tpos) (.Call (.Name "enumerate" p) [e] [] pos) (iEnS X.K ta) :=
  ⟨fun pins s σ H R I h => h.elim (fun q => (pi_enT hg hm ha hs).run pins s σ H R I q) (fun q => (pi_enum hg hm ha hs).run pins s σ H R I q)⟩
section
variable {C : Ctx} {E : XK} {X : XP} {n : Nat} {ρ : Dv} {K : PySem.W.Frag} {P : Nat → DVal → Prop} {p : Post}
theorem i_enS {t : TE} {P : Nat → List PyData → Prop} (h : EJ C E X n ρ t fun n1 x => ∃ ds, x = .d (.tuple ds) ∧ P n1 (enD ds)) : IJ C E X n ρ (iEnS K (tCons t tNil)) P := fun σ H R' I e x k => .inl (i_enT h σ H R' I e x k)
theorem i_enSL {t : TE} {P : Nat → List PyData → Prop} (h : EJ C E X n ρ t fun n1 x => ∃ ds, x = .d (.list ds) ∧ P n1 (enD ds)) : IJ C E X n ρ (iEnS K (tCons t tNil)) P := fun σ H R' I e x k => .inr (i_enL h σ H R' I e x k)
/-- x is None -/
def isNoneD : PyData → Bool
  | .none => true
  | _ => false
theorem da_none {H : Hp} {v : V} {d : PyData} (h : Da H v d) : decide (v = .non) = isNoneD d := by
  cases h <;> simp [isNoneD]
theorem e_isN {ta tb : TE} (h : EJ C E X n ρ ta fun n1 x => EJ C E X n1 ρ tb fun n2 y => ∃ d, x = .d d ∧ y = .d .none ∧ P n2 (.d (.bool (isNoneD d)))) : EJ C E X n ρ (tOp (fun x y H Q => y = .non ∧ Q (.bl (decide (x = .non))) H) ta tb) P :=
  e_two (h.imp fun n1 x q => q.imp fun n2 y ⟨d, ex, ey, p⟩ => by
    subst ex ey
    intro H2 v u Q I r1 r2 k
    have e : u = .non := by
      cases (show Da (C.vw H2) u .none from r2)
      rfl
    refine ⟨e, ?_⟩
    rw [da_none (show Da (C.vw H2) v d from r1)]
    exact k _ _ _ (C.refl _) I (.bl _) p)
theorem kitAny_LT (d : PyData) : PySem.W.kitAny K (.type (kd d)) [.type "list", .type "tuple"] = some (isListD d || isTupD d) := by
  have h1 : PySem.W.kitOne K (.type (kd d)) (.type "list") = _ := kit_ty (kit_list d)
  have h2 : PySem.W.kitOne K (.type (kd d)) (.type "tuple") = _ := kit_ty (kit_tuple d)
  unfold PySem.W.kitAny
  rw [h1]
  unfold PySem.W.kitAny
  rw [h2]
  cases d <;> rfl
/-- isinstance(x, (list, tuple)) -/
theorem e_isLT {ta : TE} (h : EJ C E X n ρ ta fun n1 x => ∃ d, x = .d d ∧ P n1 (.d (.bool (isListD d || isTupD d)))) :
    EJ C E X n ρ (tCB (rIsiT K) (tCons ta (tCons (tTup (tCons (tC (.ty "list")) (tCons (tC (.ty "tuple")) tNil))) tNil))) P := fun σ H Q I e x k =>
  h σ H _ I e x fun v y n1 H1 g1 i1 r1 ⟨d, ey, p⟩ => by
    subst ey
    refine ⟨by decide, fun q hq => ?_⟩
    obtain ⟨a, b, c⟩ := C.new (.tup [.ty "list", .ty "tuple"]) i1 hq
    exact ⟨v, q, _, .type (kd d), [.type "list", .type "tuple"], _, rfl, upd_same, .cons (.ty "list") (.cons (.ty "tuple") .nil), (Da.mono (C.sub (H := upd H1 q (.tup [.ty "list", .ty "tuple"]))) (Rep.up r1 a)).ty, kitAny_LT d, k _ _ n1 _ (C.trans g1 a) b (.bl _) p⟩
/-- a list cut -/
theorem e_slL {ta : TE} {tl th : TO} (h : EJ C E X n ρ ta fun n1 x => ∃ ds, x = .d (.list ds) ∧ OJ C E X n1 ρ tl fun n2 lo => OJ C E X n2 ρ th fun n3 hi => P n3 (.d (.list (cutD ds lo hi)))) : EJ C E X n ρ (tSl (rSlL K) ta tl th) P := fun σ H Q I e x k =>
  h σ H _ I e x fun v y n1 H1 g1 i1 r1 ⟨ds, ey, p⟩ => p σ H1 _ i1 (e.up g1) (x.up g1) fun lo n2 H2 g2 i2 p => p σ H2 _ i2 ((e.up g1).up g2) ((x.up g1).up g2) fun hi n3 H3 g3 i3 p => by
    subst ey
    obtain ⟨a, xs, rfl, ha, hx⟩ := da_list ((Rep.up r1 g2).up g3)
    refine ⟨a, xs, rfl, SqL.of (C.sub _ _ ha), fun q hq => ?_⟩
    obtain ⟨a', b', c'⟩ := C.new (.lst (cutV xs lo hi)) i3 hq
    exact k _ _ _ _ (C.trans g1 (C.trans g2 (C.trans g3 a'))) b' (Rep.lst c' (dal_cut (DaL.mono (C.vwm a') hx) lo hi)) p
end
end DC
set_option Elab.async false
set_option linter.all false
set_option maxRecDepth 100000
set_option maxHeartbeats 4000000
namespace DC
open PySem L2 Gd PySem.ExG
/-! ### set(t) of a tuple of ints, sorted(set(t)) -/
def rSetTupI (K : PySem.W.Frag) (w : World) : List V → Hp → VK → Prop := fun xs H Q => ∃ (l : Addr) (ns : List Int), xs = [V.ref l] ∧ SqT K H l (ns.map V.int) ∧ ns.length < 64 ∧
  ∀ a c, H a = none → c ≤ ns.length → Q (.ref a) (upd H a (SetO w a (fun j => decide (j ∈ ns)) c))
theorem cr_setTupI {X : Cx} (hc : X.calm = true) : CallR X (.type "set") (rSetTupI X.K X.w) := by
  intro pins s σ H xs us Q I r h
  obtain ⟨l, ns, rfl, hl, hf, q⟩ := h
  rw [Vals.ref1 r]
  obtain ⟨its, rv, pl, hz⟩ := I.tuple hl
  have hn : H s.heap.objs.size = none := I.hok.fresh (Nat.le_refl _)
  refine call_set_tupI (P := X.prog) (w := X.w) ns (I.ok.hd hc) pl (by simpa using rv.ints) (by unfold scanBound; omega) fun h' tk c R hcn k => ?_
  exact ⟨.ref s.heap.objs.size, upd H s.heap.objs.size (SetO X.w s.heap.objs.size (fun j => decide (j ∈ ns)) c), I.laid (t' := tk) k (Nat.le_refl _) (setO_new R), rfl, q _ _ hn hcn⟩
section
variable {C : Ctx} {E : XK} {X : XP} {n : Nat} {ρ : Dv} {K : PySem.W.Frag} {w : World} {P : Nat → DVal → Prop}
theorem dal_of_ints {G : Hp} : ∀ ms : List Int, DaL G (ms.map V.int) (ms.map PyData.int)
  | [] => .nil
  | m :: r => .cons (.int m) (dal_of_ints r)
theorem e_sortedSetT {t : TE} (h : EJ C E X n ρ t fun n1 x => ∃ ns : List Int, x = .d (.tuple (ns.map .int)) ∧ ns.length < 64 ∧ ∀ ms : List Int, ms.Pairwise (· < ·) → (∀ k, k ∈ ms ↔ k ∈ ns) → P n1 (.d (.list (ms.map .int)))) :
    EJ C E X n ρ (tCB (rSortedSet w) (tCons (tCB (rSetTupI K w) (tCons t tNil)) tNil)) P := fun σ H Q I e x k =>
  h σ H _ I e x fun v y n1 H1 g1 i1 r1 ⟨ns, ey, hl, p⟩ => by
    subst ey
    obtain ⟨a, xs, rfl, ha, hx⟩ := da_tuple r1
    have ex := dal_ints hx
    subst ex
    refine ⟨a, ns, rfl, SqT.of (C.sub _ _ ha), hl, fun b c hb hc => ?_⟩
    obtain ⟨a1, b1, c1⟩ := C.new (SetO w b (fun j => decide (j ∈ ns)) c) i1 hb (by intro _ z; cases z)
    refine ⟨b, _, c, rfl, upd_same, by omega, fun ms q hp hm _ hq => ?_⟩
    obtain ⟨a2, b2, c2⟩ := C.new (.lst (ms.map V.int)) b1 hq
    refine k _ (.d (.list (ms.map .int))) n1 _ (C.trans g1 (C.trans a1 a2)) b2 (Rep.lst c2 (dal_of_ints ms)) (p ms hp fun j => (hm j).trans decide_eq_true_iff)
end
end DC
set_option Elab.async false
set_option linter.all false
set_option maxRecDepth 100000
set_option maxHeartbeats 4000000
set_option autoImplicit false
namespace DC
open PySem L2 Gd LamX CpComb RZ PySem.ExG
set_option exponentiation.threshold 10000
section
variable {Ts : List (Addr × Str)} {cm : Nat → Addr} {E : XK} {K : PySem.W.Frag}
theorem Snd.bind {C : Ctx} {X : XP} {n : Nat} {ρ : Dv} {P : Nat → DVal → Prop} {β : Type} {Pb : Nat → β → Prop} {t : TE} {f : VE} {k : DVal → T β} (s : Snd Ts cm E t f) (hT : HasT Ts C)
    (h : ((f ρ).bind k).wp (MM C) n Pb (xn cm X)) (q : ∀ n x, (k x).wp (MM C) n Pb (xn cm X) → P n x) : EJ C E X n ρ t P := (s C X n ρ _ hT (T.wp_bind.mp h)).imp q
theorem SndT.bind {C : Ctx} {X : XP} {n : Nat} {ρ : Dv} {P : Nat → Bool → Prop} {β : Type} {Pb : Nat → β → Prop} {t : TT} {f : VT} {k : Bool → T β} (s : SndT Ts cm E t f) (hT : HasT Ts C)
    (h : ((f ρ).bind k).wp (MM C) n Pb (xn cm X)) (q : ∀ n x, (k x).wp (MM C) n Pb (xn cm X) → P n x) : TJ C E X n ρ t P := (s C X n ρ _ hT (T.wp_bind.mp h)).imp q
theorem SndA.bind {C : Ctx} {X : XP} {n : Nat} {ρ : Dv} {P : Nat → List DVal → Prop} {β : Type} {Pb : Nat → β → Prop} {t : TA} {f : VA} {k : List DVal → T β} (s : SndA Ts cm E t f) (hT : HasT Ts C)
    (h : ((f ρ).bind k).wp (MM C) n Pb (xn cm X)) (q : ∀ n x, (k x).wp (MM C) n Pb (xn cm X) → P n x) : AJ C E X n ρ t P := (s C X n ρ _ hT (T.wp_bind.mp h)).imp q
theorem OJ.imp {C : Ctx} {X : XP} {n : Nat} {ρ : Dv} {t : TO} {P P' : Nat → Option Int → Prop} (h : OJ C E X n ρ t P) (q : ∀ n x, P n x → P' n x) : OJ C E X n ρ t P' := fun σ H Q I e x k => h σ H Q I e x fun v n' H' g i p => k v n' H' g i (q _ _ p)
theorem SndO.bind {C : Ctx} {X : XP} {n : Nat} {ρ : Dv} {P : Nat → Option Int → Prop} {β : Type} {Pb : Nat → β → Prop} {t : TO} {f : VO} {k : Option Int → T β} (s : SndO Ts cm E t f) (hT : HasT Ts C)
    (h : ((f ρ).bind k).wp (MM C) n Pb (xn cm X)) (q : ∀ n x, (k x).wp (MM C) n Pb (xn cm X) → P n x) : OJ C E X n ρ t P := OJ.imp (s C X n ρ _ hT (T.wp_bind.mp h)) q
theorem IJ.imp {C : Ctx} {X : XP} {n : Nat} {ρ : Dv} {t : TI} {P P' : Nat → List PyData → Prop} (h : IJ C E X n ρ t P) (q : ∀ n x, P n x → P' n x) : IJ C E X n ρ t P' := fun σ H R' I e x k => h σ H R' I e x fun J n' H' xs g i p it => k J n' H' xs g i (q _ _ p) it
theorem SndI.bind {C : Ctx} {X : XP} {n : Nat} {ρ : Dv} {P : Nat → List PyData → Prop} {β : Type} {Pb : Nat → β → Prop} {t : TI} {f : VI} {k : List PyData → T β} (s : SndI Ts cm E t f) (hT : HasT Ts C)
    (h : ((f ρ).bind k).wp (MM C) n Pb (xn cm X)) (q : ∀ n x, (k x).wp (MM C) n Pb (xn cm X) → P n x) : IJ C E X n ρ t P := IJ.imp (s C X n ρ _ hT (T.wp_bind.mp h)) q
/-! #### names, constants -/
def vVar (i : Nat) : VE := fun ρ => match ρ[i]? with
  | some (some x) => .ret x
  | _ => .stuck
@[simp] theorem vVar_c (i : Nat) (o : Option DVal) (ρ : Dv) : vVar i (o :: ρ) = match (o :: ρ)[i]? with
  | some (some x) => .ret x
  | _ => .stuck := rfl
theorem snd_var {i : Nat} : Snd Ts cm E (tVar i) (vVar i) := fun C X n ρ P hT h => by
  unfold vVar at h
  split at h
  · next x e => exact e_var e h
  · exact h.elim
def vC (d : PyData) : VE := fun _ => .ret (.d d)
@[simp] theorem vC_c (d : PyData) (o : Option DVal) (ρ : Dv) : vC d (o :: ρ) = .ret (.d d) := rfl
theorem snd_int {i : Int} : Snd Ts cm E (tC (.int i)) (vC (.int i)) := fun C X n ρ P hT h => e_int h
theorem snd_bl {b : Bool} : Snd Ts cm E (tC (.bl b)) (vC (.bool b)) := fun C X n ρ P hT h => e_bl h
theorem snd_str {x : Str} : Snd Ts cm E (tC (.str x)) (vC (.str x)) := fun C X n ρ P hT h => e_str h
theorem snd_non : Snd Ts cm E (tC .non) (vC .none) := fun C X n ρ P hT h => e_non h
def aNil : VA := fun _ => .ret []
@[simp] theorem aNil_c (o : Option DVal) (ρ : Dv) : aNil (o :: ρ) = .ret [] := rfl
def aCons (f : VE) (g : VA) : VA := fun ρ => (f ρ).bind fun x => (g ρ).bind fun xs => .ret (x :: xs)
@[simp] theorem aCons_c (f : VE) (g : VA) (o : Option DVal) (ρ : Dv) : aCons f g (o :: ρ) = (f (o :: ρ)).bind fun x => (g (o :: ρ)).bind fun xs => .ret (x :: xs) := rfl
theorem snd_nil : SndA Ts cm E tNil aNil := fun C X n ρ P hT h => a_nil h
theorem snd_cons {t : TE} {ts : TA} {f : VE} {g : VA} (s1 : Snd Ts cm E t f) (s2 : SndA Ts cm E ts g) : SndA Ts cm E (tCons t ts) (aCons f g) := fun C X n ρ P hT h =>
  a_cons (s1.bind hT h fun n1 x q => s2.bind hT q fun n2 xs p => p)
def vTup (a : VA) : VE := fun ρ => (a ρ).bind fun xs => match unD xs with
  | some ds => need (decide (ds.length ≤ 5000)) (.ret (.d (.tuple ds)))
  | none => .stuck
@[simp] theorem vTup_c (a : VA) (o : Option DVal) (ρ : Dv) : vTup a (o :: ρ) = (a (o :: ρ)).bind fun xs => match unD xs with
  | some ds => need (decide (ds.length ≤ 5000)) (.ret (.d (.tuple ds)))
  | none => .stuck := rfl
def vLst (a : VA) : VE := fun ρ => (a ρ).bind fun xs => match unD xs with
  | some ds => need (decide (ds.length ≤ 5000)) (.ret (.d (.list ds)))
  | none => .stuck
@[simp] theorem vLst_c (a : VA) (o : Option DVal) (ρ : Dv) : vLst a (o :: ρ) = (a (o :: ρ)).bind fun xs => match unD xs with
  | some ds => need (decide (ds.length ≤ 5000)) (.ret (.d (.list ds)))
  | none => .stuck := rfl
theorem snd_tup {ta : TA} {a : VA} (s : SndA Ts cm E ta a) : Snd Ts cm E (tTup ta) (vTup a) := fun C X n ρ P hT h =>
  e_tup (s.bind hT h fun n1 xs q => by
    split at q
    · next ds e =>
      obtain ⟨h1, h2⟩ := need_x q
      exact ⟨ds, e, of_decide_eq_true h1, h2⟩
    · exact q.elim)
theorem snd_lst {ta : TA} {a : VA} (s : SndA Ts cm E ta a) : Snd Ts cm E (tLst ta) (vLst a) := fun C X n ρ P hT h =>
  e_lst (s.bind hT h fun n1 xs q => by
    split at q
    · next ds e =>
      obtain ⟨h1, h2⟩ := need_x q
      exact ⟨ds, e, of_decide_eq_true h1, h2⟩
    · exact q.elim)
/-! #### operators -/
def vInt (g : Int → Int → Int) (a b : VE) : VE := fun ρ => (a ρ).bind fun x => asI x fun i => (b ρ).bind fun y => asI y fun j => .ret (.d (.int (g i j)))
@[simp] theorem vInt_c (g : Int → Int → Int) (a b : VE) (o : Option DVal) (ρ : Dv) : vInt g a b (o :: ρ) = (a (o :: ρ)).bind fun x => asI x fun i => (b (o :: ρ)).bind fun y => asI y fun j => .ret (.d (.int (g i j))) := rfl
theorem snd_op0 {g : Int → Int → Int} {ta tb : TE} {a b : VE} (s1 : Snd Ts cm E ta a) (s2 : Snd Ts cm E tb b) : Snd Ts cm E (tOp (rI0 fun i j => .int (g i j)) ta tb) (vInt g a b) := fun C X n ρ P hT h =>
  e_op0 (s1.bind hT h fun n1 x q => by
    obtain ⟨i, e, q⟩ := asI_x q
    exact ⟨i, e, s2.bind hT q fun n2 y q => asI_x q⟩)
def vCmp (g : Int → Int → Bool) (a b : VE) : VE := fun ρ => (a ρ).bind fun x => asI x fun i => (b ρ).bind fun y => asI y fun j => .ret (.d (.bool (g i j)))
@[simp] theorem vCmp_c (g : Int → Int → Bool) (a b : VE) (o : Option DVal) (ρ : Dv) : vCmp g a b (o :: ρ) = (a (o :: ρ)).bind fun x => asI x fun i => (b (o :: ρ)).bind fun y => asI y fun j => .ret (.d (.bool (g i j))) := rfl
theorem snd_cmp {g : Int → Int → Bool} {ta tb : TE} {a b : VE} (s1 : Snd Ts cm E ta a) (s2 : Snd Ts cm E tb b) : Snd Ts cm E (tOp (rI0 fun i j => .bl (g i j)) ta tb) (vCmp g a b) := fun C X n ρ P hT h =>
  e_cmp (s1.bind hT h fun n1 x q => by
    obtain ⟨i, e, q⟩ := asI_x q
    exact ⟨i, e, s2.bind hT q fun n2 y q => asI_x q⟩)
def vIntC (c : Int → Int → Prop) [∀ i j, Decidable (c i j)] (g : Int → Int → Int) (a b : VE) : VE := fun ρ => (a ρ).bind fun x => asI x fun i => (b ρ).bind fun y => asI y fun j => need (decide (c i j)) (.ret (.d (.int (g i j))))
@[simp] theorem vIntC_c (c : Int → Int → Prop) [∀ i j, Decidable (c i j)] (g : Int → Int → Int) (a b : VE) (o : Option DVal) (ρ : Dv) : vIntC c g a b (o :: ρ) = (a (o :: ρ)).bind fun x => asI x fun i => (b (o :: ρ)).bind fun y => asI y fun j => need (decide (c i j)) (.ret (.d (.int (g i j)))) := rfl
theorem snd_opC {c : Int → Int → Prop} [∀ i j, Decidable (c i j)] {g : Int → Int → Int} {ta tb : TE} {a b : VE} (s1 : Snd Ts cm E ta a) (s2 : Snd Ts cm E tb b) : Snd Ts cm E (tOp (rI c fun i j => .int (g i j)) ta tb) (vIntC c g a b) := fun C X n ρ P hT h =>
  e_opC (s1.bind hT h fun n1 x q => by
    obtain ⟨i, e, q⟩ := asI_x q
    exact ⟨i, e, s2.bind hT q fun n2 y q => by
      obtain ⟨j, e, q⟩ := asI_x q
      obtain ⟨h1, h2⟩ := need_x q
      exact ⟨j, e, of_decide_eq_true h1, h2⟩⟩)
def vUn (g : Int → Int) (a : VE) : VE := fun ρ => (a ρ).bind fun x => asI x fun i => .ret (.d (.int (g i)))
@[simp] theorem vUn_c (g : Int → Int) (a : VE) (o : Option DVal) (ρ : Dv) : vUn g a (o :: ρ) = (a (o :: ρ)).bind fun x => asI x fun i => .ret (.d (.int (g i))) := rfl
theorem snd_un {g : Int → Int} {ta : TE} {a : VE} (s1 : Snd Ts cm E ta a) : Snd Ts cm E (tUn (rU fun i => .int (g i)) ta) (vUn g a) := fun C X n ρ P hT h =>
  e_un (s1.bind hT h fun n1 x q => asI_x q)
def vCat (a b : VE) : VE := fun ρ => (a ρ).bind fun x => asL x fun ds => (b ρ).bind fun y => asL y fun es => need (decide (ds.length + es.length ≤ 5000)) (.ret (.d (.list (ds ++ es))))
@[simp] theorem vCat_c (a b : VE) (o : Option DVal) (ρ : Dv) : vCat a b (o :: ρ) = (a (o :: ρ)).bind fun x => asL x fun ds => (b (o :: ρ)).bind fun y => asL y fun es => need (decide (ds.length + es.length ≤ 5000)) (.ret (.d (.list (ds ++ es)))) := rfl
theorem snd_cat {ta tb : TE} {a b : VE} (s1 : Snd Ts cm E ta a) (s2 : Snd Ts cm E tb b) : Snd Ts cm E (tOp rCat ta tb) (vCat a b) := fun C X n ρ P hT h =>
  e_cat (s1.bind hT h fun n1 x q => by
    obtain ⟨i, e, q⟩ := asL_x q
    exact ⟨i, e, s2.bind hT q fun n2 y q => by
      obtain ⟨j, e, q⟩ := asL_x q
      obtain ⟨h1, h2⟩ := need_x q
      exact ⟨j, e, of_decide_eq_true h1, h2⟩⟩)
def vCatT (a b : VE) : VE := fun ρ => (a ρ).bind fun x => asT x fun ds => (b ρ).bind fun y => asT y fun es => need (decide (ds.length + es.length ≤ 5000)) (.ret (.d (.tuple (ds ++ es))))
@[simp] theorem vCatT_c (a b : VE) (o : Option DVal) (ρ : Dv) : vCatT a b (o :: ρ) = (a (o :: ρ)).bind fun x => asT x fun ds => (b (o :: ρ)).bind fun y => asT y fun es => need (decide (ds.length + es.length ≤ 5000)) (.ret (.d (.tuple (ds ++ es)))) := rfl
theorem snd_catT {ta tb : TE} {a b : VE} (s1 : Snd Ts cm E ta a) (s2 : Snd Ts cm E tb b) : Snd Ts cm E (tOp (rCatA K) ta tb) (vCatT a b) := fun C X n ρ P hT h =>
  e_catT (s1.bind hT h fun n1 x q => by
    obtain ⟨i, e, q⟩ := asT_x q
    exact ⟨i, e, s2.bind hT q fun n2 y q => by
      obtain ⟨j, e, q⟩ := asT_x q
      obtain ⟨h1, h2⟩ := need_x q
      exact ⟨j, e, of_decide_eq_true h1, h2⟩⟩)
def vIxT (a b : VE) : VE := fun ρ => (a ρ).bind fun x => asT x fun ds => (b ρ).bind fun y => asI y fun i => match atI ds i with
  | some d => .ret (.d d)
  | none => .stuck
@[simp] theorem vIxT_c (a b : VE) (o : Option DVal) (ρ : Dv) : vIxT a b (o :: ρ) = (a (o :: ρ)).bind fun x => asT x fun ds => (b (o :: ρ)).bind fun y => asI y fun i => match atI ds i with
  | some d => .ret (.d d)
  | none => .stuck := rfl
theorem snd_ixT {ta tb : TE} {a b : VE} (s1 : Snd Ts cm E ta a) (s2 : Snd Ts cm E tb b) : Snd Ts cm E (tOp (rIxT K) ta tb) (vIxT a b) := fun C X n ρ P hT h =>
  e_ixT (s1.bind hT h fun n1 x q => by
    obtain ⟨i, e, q⟩ := asT_x q
    exact ⟨i, e, s2.bind hT q fun n2 y q => by
      obtain ⟨j, e, q⟩ := asI_x q
      split at q
      · next d e2 => exact ⟨j, d, e, e2, q⟩
      · exact q.elim⟩)
def vIxL (a b : VE) : VE := fun ρ => (a ρ).bind fun x => asLo x fun ds => (b ρ).bind fun y => asI y fun i => match atI ds i with
  | some d => .ret (.d d)
  | none => .stuck
@[simp] theorem vIxL_c (a b : VE) (o : Option DVal) (ρ : Dv) : vIxL a b (o :: ρ) = (a (o :: ρ)).bind fun x => asLo x fun ds => (b (o :: ρ)).bind fun y => asI y fun i => match atI ds i with
  | some d => .ret (.d d)
  | none => .stuck := rfl
theorem e_ixLo {C : Ctx} {X : XP} {n : Nat} {ρ : Dv} {P : Nat → DVal → Prop} {ta tb : TE} (h : EJ C E X n ρ ta fun n1 x => ∃ ds, (x = .d (.list ds) ∨ x = .o (.l ds)) ∧ EJ C E X n1 ρ tb fun n2 y => ∃ (i : Int) (d : PyData), y = .d (.int i) ∧ atI ds i = some d ∧ P n2 (.d d)) : EJ C E X n ρ (tOp (rIxL K) ta tb) P :=
  e_two (h.imp fun n1 x ⟨ds, e, q⟩ => by
    refine q.imp fun n2 y ⟨i, d, e2, hd, p⟩ => ?_
    subst e2
    intro H2 v u Q I r1 r2 k
    have b := da_int r2
    subst b
    have key : ∃ a xs, v = .ref a ∧ SqL K H2 a xs ∧ DaL (C.vw H2) xs ds := by
      rcases e with rfl | rfl
      · obtain ⟨a, xs, rfl, ha, hx⟩ := da_list r1
        exact ⟨a, xs, rfl, SqL.of (C.sub _ _ ha), hx⟩
      · obtain ⟨L, _, a, xs, e1, _, ha, hx⟩ := r1
        exact ⟨a, xs, e1, SqL.of ha, hx⟩
    obtain ⟨a, xs, rfl, ha, hx⟩ := key
    obtain ⟨w, h1, h2⟩ := atI_dal hx hd
    exact ⟨a, xs, i, w, rfl, rfl, ha, h1, k w (.d d) _ (C.refl _) I h2 p⟩)
theorem snd_ixL {ta tb : TE} {a b : VE} (s1 : Snd Ts cm E ta a) (s2 : Snd Ts cm E tb b) : Snd Ts cm E (tOp (rIxL K) ta tb) (vIxL a b) := fun C X n ρ P hT h =>
  e_ixLo (s1.bind hT h fun n1 x q => by
    obtain ⟨i, e, q⟩ := asLo_x q
    exact ⟨i, e, s2.bind hT q fun n2 y q => by
      obtain ⟨j, e, q⟩ := asI_x q
      split at q
      · next d e2 => exact ⟨j, d, e, e2, q⟩
      · exact q.elim⟩)
def vRepT (a b : VE) : VE := fun ρ => (a ρ).bind fun x => asT x fun ds => (b ρ).bind fun y => asI y fun k => need (!ds.isEmpty && decide (2 ≤ k) && decide (k ≤ 1000) && decide (ds.length ≤ 1000)) (.ret (.d (.tuple (List.replicate k.toNat ds).flatten)))
@[simp] theorem vRepT_c (a b : VE) (o : Option DVal) (ρ : Dv) : vRepT a b (o :: ρ) = (a (o :: ρ)).bind fun x => asT x fun ds => (b (o :: ρ)).bind fun y => asI y fun k => need (!ds.isEmpty && decide (2 ≤ k) && decide (k ≤ 1000) && decide (ds.length ≤ 1000)) (.ret (.d (.tuple (List.replicate k.toNat ds).flatten))) := rfl
theorem snd_repT {ta tb : TE} {a b : VE} (s1 : Snd Ts cm E ta a) (s2 : Snd Ts cm E tb b) : Snd Ts cm E (tOp (rRepT K) ta tb) (vRepT a b) := fun C X n ρ P hT h =>
  e_repT (s1.bind hT h fun n1 x q => by
    obtain ⟨i, e, q⟩ := asT_x q
    exact ⟨i, e, s2.bind hT q fun n2 y q => by
      obtain ⟨j, e, q⟩ := asI_x q
      obtain ⟨h1, h2⟩ := need_x q
      simp only [Bool.and_eq_true, decide_eq_true_eq, Bool.not_eq_true'] at h1
      obtain ⟨⟨⟨a1, a2⟩, a3⟩, a4⟩ := h1
      exact ⟨j, e, (fun z => by rw [z] at a1; cases a1), a2, a3, a4, h2⟩⟩)
/-! #### tests -/
def tV (a : VE) : VT := fun ρ => (a ρ).bind fun x => asB x fun b => .ret b
@[simp] theorem tV_c (a : VE) (o : Option DVal) (ρ : Dv) : tV a (o :: ρ) = (a (o :: ρ)).bind fun x => asB x fun b => .ret b := rfl
theorem snd_test {t : TE} {a : VE} (s : Snd Ts cm E t a) : SndT Ts cm E (tTest t) (tV a) := fun C X n ρ P hT h => t_test (s.bind hT h fun n1 x q => asB_x q)
theorem snd_tB {t : TE} {a : VE} (s : Snd Ts cm E t a) : SndT Ts cm E (tB t) (tV a) := fun C X n ρ P hT h => t_B (s.bind hT h fun n1 x q => asB_x q)
def tY : VT := fun _ => .ret true
@[simp] theorem tY_c (o : Option DVal) (ρ : Dv) : tY (o :: ρ) = .ret true := rfl
theorem snd_yes : SndT Ts cm E tYes tY := fun C X n ρ P hT h => t_yes h
def tN (a : VT) : VT := fun ρ => (a ρ).bind fun b => .ret (!b)
@[simp] theorem tN_c (a : VT) (o : Option DVal) (ρ : Dv) : tN a (o :: ρ) = (a (o :: ρ)).bind fun b => .ret (!b) := rfl
theorem snd_not {t : TT} {a : VT} (s : SndT Ts cm E t a) : SndT Ts cm E (tNot t) (tN a) := fun C X n ρ P hT h => t_not (s.bind hT h fun n1 x q => q)
def tA (a b : VT) : VT := fun ρ => (a ρ).bind fun x => if x = true then b ρ else .ret false
@[simp] theorem tA_c (a b : VT) (o : Option DVal) (ρ : Dv) : tA a b (o :: ρ) = (a (o :: ρ)).bind fun x => if x = true then b (o :: ρ) else .ret false := rfl
theorem snd_and {t u : TT} {a b : VT} (s1 : SndT Ts cm E t a) (s2 : SndT Ts cm E u b) : SndT Ts cm E (tAnd t u) (tA a b) := fun C X n ρ P hT h => t_and (s1.bind hT h fun n1 x q => by
  by_cases hx : x = true
  · rw [if_pos hx] at q ⊢
    exact s2 _ _ _ _ _ hT q
  · rw [if_neg hx] at q ⊢
    exact q)
def tO (a b : VT) : VT := fun ρ => (a ρ).bind fun x => if x = true then .ret true else b ρ
@[simp] theorem tO_c (a b : VT) (o : Option DVal) (ρ : Dv) : tO a b (o :: ρ) = (a (o :: ρ)).bind fun x => if x = true then .ret true else b (o :: ρ) := rfl
theorem snd_or {t u : TT} {a b : VT} (s1 : SndT Ts cm E t a) (s2 : SndT Ts cm E u b) : SndT Ts cm E (tOr t u) (tO a b) := fun C X n ρ P hT h => t_or (s1.bind hT h fun n1 x q => by
  by_cases hx : x = true
  · rw [if_pos hx] at q ⊢
    exact q
  · rw [if_neg hx] at q ⊢
    exact s2 _ _ _ _ _ hT q)
def vAnd (a b : VE) : VE := fun ρ => (a ρ).bind fun x => asB x fun x => if x = true then b ρ else .ret (.d (.bool false))
@[simp] theorem vAnd_c (a b : VE) (o : Option DVal) (ρ : Dv) : vAnd a b (o :: ρ) = (a (o :: ρ)).bind fun x => asB x fun x => if x = true then b (o :: ρ) else .ret (.d (.bool false)) := rfl
theorem snd_andV {t u : TE} {a b : VE} (s1 : Snd Ts cm E t a) (s2 : Snd Ts cm E u b) : Snd Ts cm E (tAndV t u) (vAnd a b) := fun C X n ρ P hT h => e_andV (s1.bind hT h fun n1 x q => by
  obtain ⟨x, e, q⟩ := asB_x q
  refine ⟨x, e, ?_⟩
  by_cases hx : x = true
  · rw [if_pos hx] at q ⊢
    exact s2 _ _ _ _ _ hT q
  · rw [if_neg hx] at q ⊢
    exact q)
def vOr (a b : VE) : VE := fun ρ => (a ρ).bind fun x => asB x fun x => if x = true then .ret (.d (.bool true)) else b ρ
@[simp] theorem vOr_c (a b : VE) (o : Option DVal) (ρ : Dv) : vOr a b (o :: ρ) = (a (o :: ρ)).bind fun x => asB x fun x => if x = true then .ret (.d (.bool true)) else b (o :: ρ) := rfl
theorem snd_orV {t u : TE} {a b : VE} (s1 : Snd Ts cm E t a) (s2 : Snd Ts cm E u b) : Snd Ts cm E (tOrV t u) (vOr a b) := fun C X n ρ P hT h => e_orV (s1.bind hT h fun n1 x q => by
  obtain ⟨x, e, q⟩ := asB_x q
  refine ⟨x, e, ?_⟩
  by_cases hx : x = true
  · rw [if_pos hx] at q ⊢
    exact q
  · rw [if_neg hx] at q ⊢
    exact s2 _ _ _ _ _ hT q)
def vNot (a : VE) : VE := fun ρ => (a ρ).bind fun x => asB x fun x => .ret (.d (.bool (!x)))
@[simp] theorem vNot_c (a : VE) (o : Option DVal) (ρ : Dv) : vNot a (o :: ρ) = (a (o :: ρ)).bind fun x => asB x fun x => .ret (.d (.bool (!x))) := rfl
theorem snd_notV {t : TE} {a : VE} (s1 : Snd Ts cm E t a) : Snd Ts cm E (tNotV t) (vNot a) := fun C X n ρ P hT h => e_notV (s1.bind hT h fun n1 x q => asB_x q)
def vIf (c : VT) (a b : VE) : VE := fun ρ => (c ρ).bind fun x => if x = true then a ρ else b ρ
@[simp] theorem vIf_c (c : VT) (a b : VE) (o : Option DVal) (ρ : Dv) : vIf c a b (o :: ρ) = (c (o :: ρ)).bind fun x => if x = true then a (o :: ρ) else b (o :: ρ) := rfl
theorem snd_if {c : TT} {t u : TE} {f : VT} {a b : VE} (s0 : SndT Ts cm E c f) (s1 : Snd Ts cm E t a) (s2 : Snd Ts cm E u b) : Snd Ts cm E (tIf c t u) (vIf f a b) := fun C X n ρ P hT h => e_if (s0.bind hT h fun n1 x q => by
  by_cases hx : x = true
  · rw [if_pos hx] at q ⊢
    exact s1 _ _ _ _ _ hT q
  · rw [if_neg hx] at q ⊢
    exact s2 _ _ _ _ _ hT q)
def vChain (g g' : Int → Int → Bool) (a b c : VE) : VE := fun ρ => (a ρ).bind fun x => asI x fun i => (b ρ).bind fun y => asI y fun j => if g i j = true then (c ρ).bind fun z => asI z fun l => .ret (.d (.bool (g' j l))) else .ret (.d (.bool false))
@[simp] theorem vChain_c (g g' : Int → Int → Bool) (a b c : VE) (o : Option DVal) (ρ : Dv) : vChain g g' a b c (o :: ρ) = (a (o :: ρ)).bind fun x => asI x fun i => (b (o :: ρ)).bind fun y => asI y fun j => if g i j = true then (c (o :: ρ)).bind fun z => asI z fun l => .ret (.d (.bool (g' j l))) else .ret (.d (.bool false)) := rfl
theorem snd_chain {g g' : Int → Int → Bool} {ta tb tc : TE} {a b c : VE} (s1 : Snd Ts cm E ta a) (s2 : Snd Ts cm E tb b) (s3 : Snd Ts cm E tc c) :
    Snd Ts cm E (tChain (rI0 fun i j => .bl (g i j)) (rI0 fun i j => .bl (g' i j)) ta tb tc) (vChain g g' a b c) := fun C X n ρ P hT h => e_chain (s1.bind hT h fun n1 x q => by
  obtain ⟨i, e, q⟩ := asI_x q
  refine ⟨i, e, s2.bind hT q fun n2 y q => ?_⟩
  obtain ⟨j, e, q⟩ := asI_x q
  refine ⟨j, e, ?_⟩
  by_cases hx : g i j = true
  · rw [if_pos hx] at q ⊢
    exact s3.bind hT q fun n3 z q => asI_x q
  · rw [if_neg hx] at q ⊢
    exact q)
/-! #### in, ==, != -/
def intsL : List PyData → Option (List Int)
  | [] => some []
  | .int i :: r => (intsL r).map (i :: ·)
  | _ :: _ => none
theorem intsL_eq : ∀ {ds : List PyData} {ns : List Int}, intsL ds = some ns → ds = ns.map .int
  | [], ns, h => by cases h; rfl
  | .int i :: r, ns, h => by
    unfold intsL at h
    cases e : intsL r with
    | none => rw [e] at h; cases h
    | some m =>
      rw [e] at h
      cases h
      rw [intsL_eq e]
      rfl
@[simp] theorem intsL_map : ∀ ns : List Int, intsL (ns.map .int) = some ns
  | [] => rfl
  | n :: r => by
    show (intsL (r.map .int)).map (n :: ·) = _
    rw [intsL_map r]
    rfl
def strsL : List PyData → Option (List Str)
  | [] => some []
  | .str i :: r => (strsL r).map (i :: ·)
  | _ :: _ => none
theorem strsL_eq : ∀ {ds : List PyData} {ns : List Str}, strsL ds = some ns → ds = ns.map .str
  | [], ns, h => by cases h; rfl
  | .str i :: r, ns, h => by
    unfold strsL at h
    cases e : strsL r with
    | none => rw [e] at h; cases h
    | some m =>
      rw [e] at h
      cases h
      rw [strsL_eq e]
      rfl
@[simp] theorem strsL_map : ∀ ns : List Str, strsL (ns.map .str) = some ns
  | [] => rfl
  | n :: r => by
    show (strsL (r.map .str)).map (n :: ·) = _
    rw [strsL_map r]
    rfl
def asIs {α : Type} (ds : List PyData) (k : List Int → T α) : T α := match intsL ds with
  | some ns => k ns
  | none => .stuck
theorem asIs_x {α : Type} {M : V → Prop} {n : Nat} {P : Nat → α → Prop} {X : XN} {ds : List PyData} {k : List Int → T α} (h : (asIs ds k).wp M n P X) : ∃ ns : List Int, ds = ns.map .int ∧ (k ns).wp M n P X := by
  unfold asIs at h
  split at h
  · next e => exact ⟨_, intsL_eq e, h⟩
  · exact h.elim
@[simp] theorem asIs_map {α : Type} (ns : List Int) (k : List Int → T α) : asIs (ns.map .int) k = k ns := by unfold asIs; rw [intsL_map]
def asSs {α : Type} (ds : List PyData) (k : List Str → T α) : T α := match strsL ds with
  | some ns => k ns
  | none => .stuck
theorem asSs_x {α : Type} {M : V → Prop} {n : Nat} {P : Nat → α → Prop} {X : XN} {ds : List PyData} {k : List Str → T α} (h : (asSs ds k).wp M n P X) : ∃ ns : List Str, ds = ns.map .str ∧ (k ns).wp M n P X := by
  unfold asSs at h
  split at h
  · next e => exact ⟨_, strsL_eq e, h⟩
  · exact h.elim
@[simp] theorem asSs_map {α : Type} (ns : List Str) (k : List Str → T α) : asSs (ns.map .str) k = k ns := by unfold asSs; rw [strsL_map]
def asS {α : Type} (x : DVal) (k : Str → T α) : T α := match x with
  | .d (.str i) => k i
  | _ => .stuck
@[simp] theorem asS_0 {α : Type} (i : Str) (k : Str → T α) : asS (.d (.str i)) k = k i := rfl
theorem asS_x {α : Type} {M : V → Prop} {n : Nat} {P : Nat → α → Prop} {X : XN} {x : DVal} {k : Str → T α} (h : (asS x k).wp M n P X) : ∃ i, x = .d (.str i) ∧ (k i).wp M n P X := by
  match x, h with
  | .d (.str i), h => exact ⟨i, rfl, h⟩
def vInI (neg : Bool) (a b : VE) : VE := fun ρ => (a ρ).bind fun x => asI x fun i => (b ρ).bind fun y => asQ y fun ds => asIs ds fun ns => .ret (.d (.bool (if neg = true then !ns.contains i else ns.contains i)))
@[simp] theorem vInI_c (neg : Bool) (a b : VE) (o : Option DVal) (ρ : Dv) : vInI neg a b (o :: ρ) = (a (o :: ρ)).bind fun x => asI x fun i => (b (o :: ρ)).bind fun y => asQ y fun ds => asIs ds fun ns => .ret (.d (.bool (if neg = true then !ns.contains i else ns.contains i))) := rfl
theorem snd_inI {neg : Bool} {ta tb : TE} {a b : VE} (s1 : Snd Ts cm E ta a) (s2 : Snd Ts cm E tb b) : Snd Ts cm E (tOp (rIn K neg) ta tb) (vInI neg a b) := fun C X n ρ P hT h => e_inI (s1.bind hT h fun n1 x q => by
  obtain ⟨i, e, q⟩ := asI_x q
  refine ⟨i, e, s2.bind hT q fun n2 y q => ?_⟩
  obtain ⟨ds, e, q⟩ := asQ_x q
  obtain ⟨ns, e2, q⟩ := asIs_x q
  exact ⟨ns, by rw [e, e2], q⟩)
def vInS (neg : Bool) (a b : VE) : VE := fun ρ => (a ρ).bind fun x => asS x fun i => (b ρ).bind fun y => asQ y fun ds => asSs ds fun ns => .ret (.d (.bool (if neg = true then !ns.contains i else ns.contains i)))
@[simp] theorem vInS_c (neg : Bool) (a b : VE) (o : Option DVal) (ρ : Dv) : vInS neg a b (o :: ρ) = (a (o :: ρ)).bind fun x => asS x fun i => (b (o :: ρ)).bind fun y => asQ y fun ds => asSs ds fun ns => .ret (.d (.bool (if neg = true then !ns.contains i else ns.contains i))) := rfl
theorem snd_inS {neg : Bool} {ta tb : TE} {a b : VE} (s1 : Snd Ts cm E ta a) (s2 : Snd Ts cm E tb b) : Snd Ts cm E (tOp (rIn K neg) ta tb) (vInS neg a b) := fun C X n ρ P hT h => e_inS (s1.bind hT h fun n1 x q => by
  obtain ⟨i, e, q⟩ := asS_x q
  refine ⟨i, e, s2.bind hT q fun n2 y q => ?_⟩
  obtain ⟨ds, e, q⟩ := asQ_x q
  obtain ⟨ns, e2, q⟩ := asSs_x q
  exact ⟨ns, by rw [e, e2], q⟩)
def asSc {α : Type} (x y : DVal) (k : Bool → T α) : T α := match x, y with
  | .d d, .d e => match sc d e with
    | some b => k b
    | none => .stuck
  | _, _ => .stuck
@[simp] theorem asSc_0 {α : Type} (d e : PyData) (k : Bool → T α) : asSc (.d d) (.d e) k = match sc d e with
    | some b => k b
    | none => .stuck := rfl
theorem asSc_x {α : Type} {M : V → Prop} {n : Nat} {P : Nat → α → Prop} {X : XN} {x y : DVal} {k : Bool → T α} (h : (asSc x y k).wp M n P X) : ∃ d e b, x = .d d ∧ y = .d e ∧ sc d e = some b ∧ (k b).wp M n P X := by
  match x, y, h with
  | .d d, .d e, h =>
    unfold asSc at h
    simp only at h
    split at h
    · next b q => exact ⟨d, e, b, rfl, rfl, q, h⟩
    · exact h.elim
def vEq (a b : VE) : VE := fun ρ => (a ρ).bind fun x => (b ρ).bind fun y => asSc x y fun z => .ret (.d (.bool z))
@[simp] theorem vEq_c (a b : VE) (o : Option DVal) (ρ : Dv) : vEq a b (o :: ρ) = (a (o :: ρ)).bind fun x => (b (o :: ρ)).bind fun y => asSc x y fun z => .ret (.d (.bool z)) := rfl
theorem snd_eq {ta tb : TE} {a b : VE} (s1 : Snd Ts cm E ta a) (s2 : Snd Ts cm E tb b) : Snd Ts cm E (tOp rEq ta tb) (vEq a b) := fun C X n ρ P hT h => e_eq (s1.bind hT h fun n1 x q => s2.bind hT q fun n2 y q => asSc_x q)
def vNe (a b : VE) : VE := fun ρ => (a ρ).bind fun x => (b ρ).bind fun y => asSc x y fun z => .ret (.d (.bool (!z)))
@[simp] theorem vNe_c (a b : VE) (o : Option DVal) (ρ : Dv) : vNe a b (o :: ρ) = (a (o :: ρ)).bind fun x => (b (o :: ρ)).bind fun y => asSc x y fun z => .ret (.d (.bool (!z))) := rfl
theorem snd_ne {ta tb : TE} {a b : VE} (s1 : Snd Ts cm E ta a) (s2 : Snd Ts cm E tb b) : Snd Ts cm E (tOp rNe ta tb) (vNe a b) := fun C X n ρ P hT h => e_ne (s1.bind hT h fun n1 x q => s2.bind hT q fun n2 y q => asSc_x q)
def asP {α : Type} (x : DVal) (k : PyData → T α) : T α := match x with
  | .d d => need (Gd.plain d) (k d)
  | _ => .stuck
@[simp] theorem asP_0 {α : Type} (d : PyData) (k : PyData → T α) : asP (.d d) k = need (Gd.plain d) (k d) := rfl
theorem asP_x {α : Type} {M : V → Prop} {n : Nat} {P : Nat → α → Prop} {X : XN} {x : DVal} {k : PyData → T α} (h : (asP x k).wp M n P X) : ∃ d, x = .d d ∧ Gd.plain d = true ∧ (k d).wp M n P X := by
  match x, h with
  | .d d, h =>
    obtain ⟨h1, h2⟩ := need_x h
    exact ⟨d, rfl, h1, h2⟩
def vEqD (a b : VE) : VE := fun ρ => (a ρ).bind fun x => (b ρ).bind fun y => asP x fun d => asP y fun e => .ret (.d (.bool (PyData.eqv d e)))
@[simp] theorem vEqD_c (a b : VE) (o : Option DVal) (ρ : Dv) : vEqD a b (o :: ρ) = (a (o :: ρ)).bind fun x => (b (o :: ρ)).bind fun y => asP x fun d => asP y fun e => .ret (.d (.bool (PyData.eqv d e))) := rfl
theorem snd_eqD {ta tb : TE} {a b : VE} (s1 : Snd Ts cm E ta a) (s2 : Snd Ts cm E tb b) : Snd Ts cm E (tOp (rEqD K) ta tb) (vEqD a b) := fun C X n ρ P hT h => e_eqD (s1.bind hT h fun n1 x q => s2.bind hT q fun n2 y q => by
  obtain ⟨d, e1, p1, q⟩ := asP_x q
  obtain ⟨e, e2, p2, q⟩ := asP_x q
  exact ⟨d, e, e1, e2, p1, p2, q⟩)
def vNeD (a b : VE) : VE := fun ρ => (a ρ).bind fun x => (b ρ).bind fun y => asP x fun d => asP y fun e => .ret (.d (.bool (!PyData.eqv d e)))
@[simp] theorem vNeD_c (a b : VE) (o : Option DVal) (ρ : Dv) : vNeD a b (o :: ρ) = (a (o :: ρ)).bind fun x => (b (o :: ρ)).bind fun y => asP x fun d => asP y fun e => .ret (.d (.bool (!PyData.eqv d e))) := rfl
theorem snd_neD {ta tb : TE} {a b : VE} (s1 : Snd Ts cm E ta a) (s2 : Snd Ts cm E tb b) : Snd Ts cm E (tOp (rNeD K) ta tb) (vNeD a b) := fun C X n ρ P hT h => e_neD (s1.bind hT h fun n1 x q => s2.bind hT q fun n2 y q => by
  obtain ⟨d, e1, p1, q⟩ := asP_x q
  obtain ⟨e, e2, p2, q⟩ := asP_x q
  exact ⟨d, e, e1, e2, p1, p2, q⟩)
def vIsN (a b : VE) : VE := fun ρ => (a ρ).bind fun x => asD x fun d => (b ρ).bind fun y => match y with
  | .d .none => .ret (.d (.bool (isNoneD d)))
  | _ => .stuck
@[simp] theorem vIsN_c (a b : VE) (o : Option DVal) (ρ : Dv) : vIsN a b (o :: ρ) = (a (o :: ρ)).bind fun x => asD x fun d => (b (o :: ρ)).bind fun y => match y with
  | .d .none => .ret (.d (.bool (isNoneD d)))
  | _ => .stuck := rfl
theorem snd_isN {ta tb : TE} {a b : VE} (s1 : Snd Ts cm E ta a) (s2 : Snd Ts cm E tb b) : Snd Ts cm E (tOp (fun x y H Q => y = .non ∧ Q (.bl (decide (x = .non))) H) ta tb) (vIsN a b) := fun C X n ρ P hT h => e_isN (s1.bind hT h fun n1 x q => by
  obtain ⟨d, e, q⟩ := asD_x q
  refine s2.bind hT q fun n2 y q => ?_
  match y, q with
  | .d .none, q => exact ⟨d, e, rfl, q⟩)
theorem e_notN {C : Ctx} {X : XP} {n : Nat} {ρ : Dv} {P : Nat → DVal → Prop} {ta tb : TE} (h : EJ C E X n ρ ta fun n1 x => EJ C E X n1 ρ tb fun n2 y => ∃ d, x = .d d ∧ y = .d .none ∧ P n2 (.d (.bool (!isNoneD d)))) : EJ C E X n ρ (tOp (fun x y H Q => y = .non ∧ Q (.bl (!decide (x = .non))) H) ta tb) P :=
  e_two (h.imp fun n1 x q => q.imp fun n2 y ⟨d, ex, ey, p⟩ => by
    subst ex ey
    intro H2 v u Q I r1 r2 k
    have e : u = .non := by
      cases (show Da (C.vw H2) u .none from r2)
      rfl
    refine ⟨e, ?_⟩
    rw [da_none (show Da (C.vw H2) v d from r1)]
    exact k _ _ _ (C.refl _) I (.bl _) p)
def vNotN (a b : VE) : VE := fun ρ => (a ρ).bind fun x => asD x fun d => (b ρ).bind fun y => match y with
  | .d .none => .ret (.d (.bool (!isNoneD d)))
  | _ => .stuck
@[simp] theorem vNotN_c (a b : VE) (o : Option DVal) (ρ : Dv) : vNotN a b (o :: ρ) = (a (o :: ρ)).bind fun x => asD x fun d => (b (o :: ρ)).bind fun y => match y with
  | .d .none => .ret (.d (.bool (!isNoneD d)))
  | _ => .stuck := rfl
theorem snd_notN {ta tb : TE} {a b : VE} (s1 : Snd Ts cm E ta a) (s2 : Snd Ts cm E tb b) : Snd Ts cm E (tOp (fun x y H Q => y = .non ∧ Q (.bl (!decide (x = .non))) H) ta tb) (vNotN a b) := fun C X n ρ P hT h => e_notN (s1.bind hT h fun n1 x q => by
  obtain ⟨d, e, q⟩ := asD_x q
  refine s2.bind hT q fun n2 y q => ?_
  match y, q with
  | .d .none, q => exact ⟨d, e, rfl, q⟩)
/-! #### built-ins -/
def vLen (a : VE) : VE := fun ρ => (a ρ).bind fun x => asQ x fun ds => .ret (.d (.int ds.length))
@[simp] theorem vLen_c (a : VE) (o : Option DVal) (ρ : Dv) : vLen a (o :: ρ) = (a (o :: ρ)).bind fun x => asQ x fun ds => .ret (.d (.int ds.length)) := rfl
theorem snd_len {ta : TE} {a : VE} (s : Snd Ts cm E ta a) : Snd Ts cm E (tCB (fun xs H Q => ∃ p ys, xs = [.ref p] ∧ (SqL K H p ys ∨ SqT K H p ys) ∧ Q (.int ys.length) H) (tCons ta tNil)) (vLen a) := fun C X n ρ P hT h => e_len (s.bind hT h fun n1 x q => asQ_x q)
def vListOf (a : VE) : VE := fun ρ => (a ρ).bind fun x => asQ x fun ds => .ret (.d (.list ds))
@[simp] theorem vListOf_c (a : VE) (o : Option DVal) (ρ : Dv) : vListOf a (o :: ρ) = (a (o :: ρ)).bind fun x => asQ x fun ds => .ret (.d (.list ds)) := rfl
theorem snd_listOf {ta : TE} {a : VE} (s : Snd Ts cm E ta a) : Snd Ts cm E (tCB (fun xs H Q => ∃ p ys, xs = [.ref p] ∧ (SqL K H p ys ∨ SqT K H p ys) ∧ ∀ l, H l = none → Q (.ref l) (upd H l (.lst ys))) (tCons ta tNil)) (vListOf a) := fun C X n ρ P hT h => e_listOf (s.bind hT h fun n1 x q => asQ_x q)
def vTupOf (a : VE) : VE := fun ρ => (a ρ).bind fun x => asQ x fun ds => .ret (.d (.tuple ds))
@[simp] theorem vTupOf_c (a : VE) (o : Option DVal) (ρ : Dv) : vTupOf a (o :: ρ) = (a (o :: ρ)).bind fun x => asQ x fun ds => .ret (.d (.tuple ds)) := rfl
theorem snd_tupOf {ta : TE} {a : VE} (s : Snd Ts cm E ta a) : Snd Ts cm E (tCB (fun xs H Q => ∃ p ys, xs = [.ref p] ∧ ((SqL K H p ys ∧ ∀ l, H l = none → Q (.ref l) (upd H l (.tup ys))) ∨ (SqT K H p ys ∧ Q (.ref p) H))) (tCons ta tNil)) (vTupOf a) := fun C X n ρ P hT h => e_tupOf (s.bind hT h fun n1 x q => asQ_x q)
def vIs (f : PyData → Bool) (a : VE) : VE := fun ρ => (a ρ).bind fun x => asD x fun d => .ret (.d (.bool (f d)))
@[simp] theorem vIs_c (f : PyData → Bool) (a : VE) (o : Option DVal) (ρ : Dv) : vIs f a (o :: ρ) = (a (o :: ρ)).bind fun x => asD x fun d => .ret (.d (.bool (f d))) := rfl
theorem snd_isT {ta : TE} {a : VE} (s : Snd Ts cm E ta a) : Snd Ts cm E (tCB (rIsi K) (tCons ta (tCons (tC (.ty "tuple")) tNil))) (vIs isTupD a) := fun C X n ρ P hT h => e_isTup (s.bind hT h fun n1 x q => asD_x q)
theorem snd_isI {ta : TE} {a : VE} (s : Snd Ts cm E ta a) : Snd Ts cm E (tCB (rIsi K) (tCons ta (tCons (tC (.ty "int")) tNil))) (vIs isIntD a) := fun C X n ρ P hT h => e_isInt (s.bind hT h fun n1 x q => asD_x q)
theorem snd_isB {ta : TE} {a : VE} (s : Snd Ts cm E ta a) : Snd Ts cm E (tCB (rIsi K) (tCons ta (tCons (tC (.ty "bool")) tNil))) (vIs isBoolD a) := fun C X n ρ P hT h => e_isBool (s.bind hT h fun n1 x q => asD_x q)
theorem snd_isLT {ta : TE} {a : VE} (s : Snd Ts cm E ta a) : Snd Ts cm E (tCB (rIsiT K) (tCons ta (tCons (tTup (tCons (tC (.ty "list")) (tCons (tC (.ty "tuple")) tNil))) tNil))) (vIs (fun d => isListD d || isTupD d) a) := fun C X n ρ P hT h => e_isLT (s.bind hT h fun n1 x q => asD_x q)
theorem e_isL {C : Ctx} {X : XP} {n : Nat} {ρ : Dv} {P : Nat → DVal → Prop} {ta : TE} (h : EJ C E X n ρ ta fun n1 x => ∃ d, x = .d d ∧ P n1 (.d (.bool (isListD d)))) : EJ C E X n ρ (tCB (rIsi K) (tCons ta (tCons (tC (.ty "list")) tNil))) P :=
  e_isi (h.imp fun n1 x ⟨d, ex, p⟩ => ⟨d, _, ex, kit_list d, by cases d <;> exact p⟩)
theorem snd_isL {ta : TE} {a : VE} (s : Snd Ts cm E ta a) : Snd Ts cm E (tCB (rIsi K) (tCons ta (tCons (tC (.ty "list")) tNil))) (vIs isListD a) := fun C X n ρ P hT h => e_isL (s.bind hT h fun n1 x q => asD_x q)
def isStrD : PyData → Bool
  | .str _ => true
  | _ => false
theorem e_isS {C : Ctx} {X : XP} {n : Nat} {ρ : Dv} {P : Nat → DVal → Prop} {ta : TE} (h : EJ C E X n ρ ta fun n1 x => ∃ d, x = .d d ∧ P n1 (.d (.bool (isStrD d)))) : EJ C E X n ρ (tCB (rIsi K) (tCons ta (tCons (tC (.ty "str")) tNil))) P :=
  e_isi (h.imp fun n1 x ⟨d, ex, p⟩ => ⟨d, _, ex, kit_str d, by cases d <;> exact p⟩)
theorem snd_isS {ta : TE} {a : VE} (s : Snd Ts cm E ta a) : Snd Ts cm E (tCB (rIsi K) (tCons ta (tCons (tC (.ty "str")) tNil))) (vIs isStrD a) := fun C X n ρ P hT h => e_isS (s.bind hT h fun n1 x q => asD_x q)
def boolsL : List PyData → Option (List Bool)
  | [] => some []
  | .bool i :: r => (boolsL r).map (i :: ·)
  | _ :: _ => none
theorem boolsL_eq : ∀ {ds : List PyData} {ns : List Bool}, boolsL ds = some ns → ds = ns.map .bool
  | [], ns, h => by cases h; rfl
  | .bool i :: r, ns, h => by
    unfold boolsL at h
    cases e : boolsL r with
    | none => rw [e] at h; cases h
    | some m =>
      rw [e] at h
      cases h
      rw [boolsL_eq e]
      rfl
@[simp] theorem boolsL_map : ∀ ns : List Bool, boolsL (ns.map .bool) = some ns
  | [] => rfl
  | n :: r => by
    show (boolsL (r.map .bool)).map (n :: ·) = _
    rw [boolsL_map r]
    rfl
def asBs {α : Type} (ds : List PyData) (k : List Bool → T α) : T α := match boolsL ds with
  | some ns => k ns
  | none => .stuck
theorem asBs_x {α : Type} {M : V → Prop} {n : Nat} {P : Nat → α → Prop} {X : XN} {ds : List PyData} {k : List Bool → T α} (h : (asBs ds k).wp M n P X) : ∃ ns : List Bool, ds = ns.map .bool ∧ (k ns).wp M n P X := by
  unfold asBs at h
  split at h
  · next e => exact ⟨_, boolsL_eq e, h⟩
  · exact h.elim
@[simp] theorem asBs_map {α : Type} (ns : List Bool) (k : List Bool → T α) : asBs (ns.map .bool) k = k ns := by unfold asBs; rw [boolsL_map]
def vAll (a : VE) : VE := fun ρ => (a ρ).bind fun x => asL x fun ds => asBs ds fun bs => .ret (.d (.bool (bs.all id)))
@[simp] theorem vAll_c (a : VE) (o : Option DVal) (ρ : Dv) : vAll a (o :: ρ) = (a (o :: ρ)).bind fun x => asL x fun ds => asBs ds fun bs => .ret (.d (.bool (bs.all id))) := rfl
theorem snd_all {ta : TE} {a : VE} (s : Snd Ts cm E ta a) : Snd Ts cm E (tCB (rAll K) (tCons ta tNil)) (vAll a) := fun C X n ρ P hT h => e_all (s.bind hT h fun n1 x q => by
  obtain ⟨ds, e, q⟩ := asL_x q
  obtain ⟨bs, e2, q⟩ := asBs_x q
  exact ⟨bs, by rw [e, e2], q⟩)
def vAny (a : VE) : VE := fun ρ => (a ρ).bind fun x => asL x fun ds => asBs ds fun bs => .ret (.d (.bool (bs.any id)))
@[simp] theorem vAny_c (a : VE) (o : Option DVal) (ρ : Dv) : vAny a (o :: ρ) = (a (o :: ρ)).bind fun x => asL x fun ds => asBs ds fun bs => .ret (.d (.bool (bs.any id))) := rfl
theorem snd_any {ta : TE} {a : VE} (s : Snd Ts cm E ta a) : Snd Ts cm E (tCB (rAny K) (tCons ta tNil)) (vAny a) := fun C X n ρ P hT h => e_any (s.bind hT h fun n1 x q => by
  obtain ⟨ds, e, q⟩ := asL_x q
  obtain ⟨bs, e2, q⟩ := asBs_x q
  exact ⟨bs, by rw [e, e2], q⟩)
def smR (d : PyData) : Bool := d.showable && (decide (d.depth ≤ 30) && decide (d.shown.length ≤ 16000000))
theorem smR_sm {d : PyData} (h : smR d = true) : Sm 16000000 30 d := by
  unfold smR at h
  rw [Bool.and_eq_true, Bool.and_eq_true] at h
  exact ⟨h.1, of_decide_eq_true h.2.1, of_decide_eq_true h.2.2⟩
theorem sm_smR {d : PyData} (h : Sm 16000000 30 d) : smR d = true := by
  obtain ⟨a, b, c⟩ := h
  unfold smR
  rw [a, decide_eq_true b, decide_eq_true c]
  rfl
def vRepr (a : VE) : VE := fun ρ => (a ρ).bind fun x => asD x fun d => need (smR d) (.ret (.d (.str d.shown)))
@[simp] theorem vRepr_c (a : VE) (o : Option DVal) (ρ : Dv) : vRepr a (o :: ρ) = (a (o :: ρ)).bind fun x => asD x fun d => need (smR d) (.ret (.d (.str d.shown))) := rfl
theorem snd_repr {ta : TE} {a : VE} (s : Snd Ts cm E ta a) : Snd Ts cm E (tCB rRepr (tCons ta tNil)) (vRepr a) := fun C X n ρ P hT h => e_repr (s.bind hT h fun n1 x q => by
  obtain ⟨d, e, q⟩ := asD_x q
  obtain ⟨h1, h2⟩ := need_x q
  exact ⟨d, e, smR_sm h1, h2⟩)
def vMin2 (a b : VE) : VE := fun ρ => (a ρ).bind fun x => asI x fun i => (b ρ).bind fun y => asI y fun j => .ret (.d (.int (if j < i then j else i)))
@[simp] theorem vMin2_c (a b : VE) (o : Option DVal) (ρ : Dv) : vMin2 a b (o :: ρ) = (a (o :: ρ)).bind fun x => asI x fun i => (b (o :: ρ)).bind fun y => asI y fun j => .ret (.d (.int (if j < i then j else i))) := rfl
theorem snd_min2 {ta tb : TE} {a b : VE} (s1 : Snd Ts cm E ta a) (s2 : Snd Ts cm E tb b) : Snd Ts cm E (tCB (fun xs H Q => ∃ i j, xs = [.int i, .int j] ∧ Q (.int (if j < i then j else i)) H) (tCons ta (tCons tb tNil))) (vMin2 a b) := fun C X n ρ P hT h => e_min2 (s1.bind hT h fun n1 x q => by
  obtain ⟨i, e, q⟩ := asI_x q
  exact ⟨i, e, s2.bind hT q fun n2 y q => asI_x q⟩)
def vIntI (a : VE) : VE := fun ρ => (a ρ).bind fun x => asI x fun i => .ret (.d (.int i))
@[simp] theorem vIntI_c (a : VE) (o : Option DVal) (ρ : Dv) : vIntI a (o :: ρ) = (a (o :: ρ)).bind fun x => asI x fun i => .ret (.d (.int i)) := rfl
theorem snd_intI {ta : TE} {a : VE} (s : Snd Ts cm E ta a) : Snd Ts cm E (tCB (fun xs H Q => (∃ i, xs = [.int i] ∧ Q (.int i) H) ∨ ∃ k, xs = [.bl k] ∧ Q (.int (if k then 1 else 0)) H) (tCons ta tNil)) (vIntI a) := fun C X n ρ P hT h => e_intI (s.bind hT h fun n1 x q => asI_x q)
def oNone : VO := fun _ => .ret none
@[simp] theorem oNone_c (o : Option DVal) (ρ : Dv) : oNone (o :: ρ) = .ret none := rfl
def oSome (a : VE) : VO := fun ρ => (a ρ).bind fun x => asI x fun i => .ret (some i)
@[simp] theorem oSome_c (a : VE) (o : Option DVal) (ρ : Dv) : oSome a (o :: ρ) = (a (o :: ρ)).bind fun x => asI x fun i => .ret (some i) := rfl
theorem snd_oNone : SndO Ts cm E tNoPart oNone := fun C X n ρ P hT h => o_none h
theorem snd_oSome {t : TE} {a : VE} (s : Snd Ts cm E t a) : SndO Ts cm E (tPart t) (oSome a) := fun C X n ρ P hT h => o_some (s.bind hT h fun n1 x q => asI_x q)
def vSlT (a : VE) (l h : VO) : VE := fun ρ => (a ρ).bind fun x => asT x fun ds => (l ρ).bind fun lo => (h ρ).bind fun hi => .ret (.d (.tuple (cutD ds lo hi)))
@[simp] theorem vSlT_c (a : VE) (l h : VO) (o : Option DVal) (ρ : Dv) : vSlT a l h (o :: ρ) = (a (o :: ρ)).bind fun x => asT x fun ds => (l (o :: ρ)).bind fun lo => (h (o :: ρ)).bind fun hi => .ret (.d (.tuple (cutD ds lo hi))) := rfl
theorem snd_slT {ta : TE} {tl th : TO} {a : VE} {l h : VO} (s1 : Snd Ts cm E ta a) (s2 : SndO Ts cm E tl l) (s3 : SndO Ts cm E th h) : Snd Ts cm E (tSl (rSlA K) ta tl th) (vSlT a l h) := fun C X n ρ P hT h => e_slT (s1.bind hT h fun n1 x q => by
  obtain ⟨ds, e, q⟩ := asT_x q
  exact ⟨ds, e, s2.bind hT q fun n2 y q => s3.bind hT q fun n3 z q => q⟩)
def vSlL (a : VE) (l h : VO) : VE := fun ρ => (a ρ).bind fun x => asL x fun ds => (l ρ).bind fun lo => (h ρ).bind fun hi => .ret (.d (.list (cutD ds lo hi)))
@[simp] theorem vSlL_c (a : VE) (l h : VO) (o : Option DVal) (ρ : Dv) : vSlL a l h (o :: ρ) = (a (o :: ρ)).bind fun x => asL x fun ds => (l (o :: ρ)).bind fun lo => (h (o :: ρ)).bind fun hi => .ret (.d (.list (cutD ds lo hi))) := rfl
theorem snd_slL {ta : TE} {tl th : TO} {a : VE} {l h : VO} (s1 : Snd Ts cm E ta a) (s2 : SndO Ts cm E tl l) (s3 : SndO Ts cm E th h) : Snd Ts cm E (tSl (rSlL K) ta tl th) (vSlL a l h) := fun C X n ρ P hT h => e_slL (s1.bind hT h fun n1 x q => by
  obtain ⟨ds, e, q⟩ := asL_x q
  exact ⟨ds, e, s2.bind hT q fun n2 y q => s3.bind hT q fun n3 z q => q⟩)
def vDNew : VE := fun _ => .ret (.d (.dict []))
@[simp] theorem vDNew_c (o : Option DVal) (ρ : Dv) : vDNew (o :: ρ) = .ret (.d (.dict [])) := rfl
theorem snd_dnew : Snd Ts cm E tDNewK vDNew := fun C X n ρ P hT h => e_dnew h
def vTupRg (a : VE) : VE := fun ρ => (a ρ).bind fun x => asI x fun k => need (decide (0 ≤ k) && decide (k ≤ 5000)) (.ret (.d (.tuple (rgD 0 k.toNat))))
@[simp] theorem vTupRg_c (a : VE) (o : Option DVal) (ρ : Dv) : vTupRg a (o :: ρ) = (a (o :: ρ)).bind fun x => asI x fun k => need (decide (0 ≤ k) && decide (k ≤ 5000)) (.ret (.d (.tuple (rgD 0 k.toNat)))) := rfl
theorem snd_tupRg {ta : TE} {a : VE} (s : Snd Ts cm E ta a) : Snd Ts cm E (tTupRg (tRg1 ta)) (vTupRg a) := fun C X n ρ P hT h => e_tupRg (s.bind hT h fun n1 x q => by
  obtain ⟨k, e, q⟩ := asI_x q
  obtain ⟨h1, h2⟩ := need_x q
  rw [Bool.and_eq_true] at h1
  exact ⟨k, e, of_decide_eq_true h1.1, of_decide_eq_true h1.2, h2⟩)
/-! #### calls -/
/-- a def's promise, told by a function -/
def spT (F : List DVal → T DVal) : SpD := fun C n xs P X => HasT Ts C ∧ (F xs).wp (MM C) n P (xn cm X)
def vCall (F : List DVal → T DVal) (a : VA) : VE := fun ρ => (a ρ).bind fun xs => (F xs).nox
@[simp] theorem vCall_c (F : List DVal → T DVal) (a : VA) (o : Option DVal) (ρ : Dv) : vCall F a (o :: ρ) = (a (o :: ρ)).bind fun xs => (F xs).nox := rfl
def vCallS (F : List DVal → T DVal) (a : VA) : VE := fun ρ => (a ρ).bind fun xs => F xs
@[simp] theorem vCallS_c (F : List DVal → T DVal) (a : VA) (o : Option DVal) (ρ : Dv) : vCallS F a (o :: ρ) = (a (o :: ρ)).bind fun xs => F xs := rfl
theorem snd_call {F : List DVal → T DVal} {E' : XK} {ta : TA} {a : VA} (s : SndA Ts cm E ta a) : Snd Ts cm E (tCall (spG (spT (Ts := Ts) (cm := cm) F)) [] E' ta) (vCall F a) := fun C X n ρ P hT h => e_call (s.bind hT h fun n1 xs q => ⟨hT, T.wp_nox q⟩)
theorem snd_callS {F : List DVal → T DVal} {ta : TA} {a : VA} (s : SndA Ts cm E ta a) : Snd Ts cm E (tCallS (spG (spT (Ts := Ts) (cm := cm) F)) (WE fun cls d _ H => E cls d H) ta) (vCallS F a) := fun C X n ρ P hT h => e_callS (s.bind hT h fun n1 xs q => ⟨hT, q⟩)
theorem snd_callS0 {F : List DVal → T DVal} {ta : TA} {a : VA} (s : SndA Ts cm E ta a) : Snd Ts cm E (tCallS (spG (spT (Ts := Ts) (cm := cm) F)) (WE fun _ _ _ _ => False) ta) (vCall F a) := fun C X n ρ P hT h => e_callS0 (s.bind hT h fun n1 xs q => ⟨hT, T.wp_nox q⟩)
/-- what a call tells, or raises -/
def vSaid (tag : Nat → Str → Option Str) (t : VE) : VE := fun ρ => match t ρ with
  | .ret (.d d) => .ret (.d (.list [d]))
  | .exc c f d => match tag c f with
    | some tg => .ret (.d (.tuple [.str tg, d]))
    | none => .stuck
  | _ => .stuck
@[simp] theorem vSaid_c (tag : Nat → Str → Option Str) (t : VE) (o : Option DVal) (ρ : Dv) : vSaid tag t (o :: ρ) = match t (o :: ρ) with
  | .ret (.d d) => .ret (.d (.list [d]))
  | .exc c f d => match tag c f with
    | some tg => .ret (.d (.tuple [.str tg, d]))
    | none => .stuck
  | _ => .stuck := rfl
theorem snd_said {t : XK → TE} {f : VE} {Gd : Oc → Prop} {tag : Nat → Str → Option Str} (ho : ∀ d, Gd (.ok d)) (hg : ∀ c f tg d, tag c f = some tg → Gd (.exc (cm c) f tg d)) (s : ∀ E', Snd Ts cm E' (t E') f) : Snd Ts cm E (tLam Ts (TTd Gd) t) (vSaid tag f) := fun C X n ρ P hT h => by
  unfold vSaid at h
  split at h
  · next d e =>
    exact e_saidT hT ⟨.ok d, ho d, fun E' P' X' o => s E' C X' n ρ P' hT (by rw [e]; exact o), h⟩
  · next c x d e =>
    split at h
    · next tg e2 =>
      exact e_saidT hT ⟨.exc (cm c) x tg d, hg c x tg d e2, fun E' P' X' o => s E' C X' n ρ P' hT (by rw [e]; exact o), h⟩
    · exact h.elim
  · exact h.elim
end
end DC
set_option Elab.async false
set_option linter.all false
set_option maxRecDepth 100000
set_option maxHeartbeats 4000000
set_option autoImplicit false
namespace DC
open PySem L2 Gd LamX CpComb RZ PySem.ExG
section
variable {Ts : List (Addr × Str)} {cm : Nat → Addr} {E : XK} {K : PySem.W.Frag}
/-! #### targets -/
abbrev VG := PyData → Dv → Option Dv
def SndG (sl : List Nat) (g : TG) (f : VG) : Prop := ∀ (x : PyData) (ρ ρ' : Dv), f x ρ = some ρ' → GJ sl g x ρ ρ'
def gN (i : Nat) : VG := fun x ρ => some (ρ.set i (some (.d x)))
@[simp] theorem gN_c (i : Nat) (x : PyData) (o : Option DVal) (ρ : Dv) : gN i x (o :: ρ) = some ((o :: ρ).set i (some (.d x))) := rfl
theorem sng_name {i : Nat} : SndG [i] (gName i) (gN i) := fun x ρ ρ' h => by cases h; exact g_name
def g2 (f g : VG) : VG := fun x ρ => match x with
  | .tuple [a, b] => (f a ρ).bind fun ρ1 => g b ρ1
  | _ => none
@[simp] theorem g2_c (f g : VG) (a b : PyData) (o : Option DVal) (ρ : Dv) : g2 f g (.tuple [a, b]) (o :: ρ) = (f a (o :: ρ)).bind fun ρ1 => g b ρ1 := rfl
theorem sng_two {s1 s2 : List Nat} {a b : TG} {f g : VG} {k : Nat} (hk : k = 2) (h1 : SndG s1 a f) (h2 : SndG s2 b g) : SndG (s1 ++ s2) (gTup K k (gCons a (gCons b gNil))) (g2 f g) := fun x ρ ρ' h => by
  unfold g2 at h
  split at h
  · next d e =>
    cases q : f d ρ with
    | none => rw [q] at h; cases h
    | some ρ1 =>
      rw [q] at h
      exact g_two hk (h1 _ _ _ q) (h2 _ _ _ h)
  · cases h
theorem g_three {g1 g2 g3 : TG} {s1 s2 s3 : List Nat} {a b c : PyData} {ρ ρ1 ρ2 ρ3 : Dv} {k : Nat} (hk : k = 3) (h1 : GJ s1 g1 a ρ ρ1) (h2 : GJ s2 g2 b ρ1 ρ2) (h3 : GJ s3 g3 c ρ2 ρ3) : GJ (s1 ++ (s2 ++ s3)) (gTup K k (gCons g1 (gCons g2 (gCons g3 gNil)))) (.tuple [a, b, c]) ρ ρ3 := fun C H v σ R r e kk => by
  obtain ⟨cc, xs, rfl, hc, hx⟩ := da_tuple r
  cases hx with
  | cons ha hx =>
    cases hx with
    | cons hb hx =>
      cases hx with
      | cons hcc hx =>
        cases hx
        refine ⟨cc, _, rfl, SqT.of (C.sub _ _ hc), hk.symm, _, _, rfl, h1 C H _ σ _ ha e fun σ1 e1 w1 => ⟨_, _, rfl, h2 C H _ σ1 _ hb e1 fun σ2 e2 w2 => ⟨_, _, rfl, h3 C H _ σ2 _ hcc e2 fun σ3 e3 w3 => ⟨rfl, kk σ3 e3 fun vs q => ?_⟩⟩⟩⟩
        rw [w3 vs fun i hi => q i (List.mem_append_right _ (List.mem_append_right _ hi)), w2 vs fun i hi => q i (List.mem_append_right _ (List.mem_append_left _ hi)), w1 vs fun i hi => q i (List.mem_append_left _ hi)]
def g3 (f g h : VG) : VG := fun x ρ => match x with
  | .tuple [a, b, c] => (f a ρ).bind fun ρ1 => (g b ρ1).bind fun ρ2 => h c ρ2
  | _ => none
@[simp] theorem g3_c (f g h : VG) (a b c : PyData) (o : Option DVal) (ρ : Dv) : g3 f g h (.tuple [a, b, c]) (o :: ρ) = (f a (o :: ρ)).bind fun ρ1 => (g b ρ1).bind fun ρ2 => h c ρ2 := rfl
theorem sng_three {s1 s2 s3 : List Nat} {a b c : TG} {f g i : VG} {k : Nat} (hk : k = 3) (h1 : SndG s1 a f) (h2 : SndG s2 b g) (h3 : SndG s3 c i) : SndG (s1 ++ (s2 ++ s3)) (gTup K k (gCons a (gCons b (gCons c gNil)))) (g3 f g i) := fun x ρ ρ' h => by
  unfold g3 at h
  split at h
  · next d e u =>
    cases q : f d ρ with
    | none => rw [q] at h; cases h
    | some ρ1 =>
      rw [q] at h
      simp only [Option.bind_some] at h
      cases q2 : g e ρ1 with
      | none => rw [q2] at h; cases h
      | some ρ2 =>
        rw [q2] at h
        exact g_three hk (h1 _ _ _ q) (h2 _ _ _ q2) (h3 _ _ _ h)
  · cases h
/-! #### what is gone over -/
def iL (a : VE) : VI := fun ρ => (a ρ).bind fun x => asL x fun ds => .ret ds
@[simp] theorem iL_c (a : VE) (o : Option DVal) (ρ : Dv) : iL a (o :: ρ) = (a (o :: ρ)).bind fun x => asL x fun ds => .ret ds := rfl
theorem sni_list {t : TE} {a : VE} (s : Snd Ts cm E t a) : SndI Ts cm E (iList K t) (iL a) := fun C X n ρ P hT h => i_list (s.bind hT h fun n1 x q => asL_x q)
def iT (a : VE) : VI := fun ρ => (a ρ).bind fun x => asT x fun ds => .ret ds
@[simp] theorem iT_c (a : VE) (o : Option DVal) (ρ : Dv) : iT a (o :: ρ) = (a (o :: ρ)).bind fun x => asT x fun ds => .ret ds := rfl
theorem sni_tup {t : TE} {a : VE} (s : Snd Ts cm E t a) : SndI Ts cm E (iTup K t) (iT a) := fun C X n ρ P hT h => i_tup (s.bind hT h fun n1 x q => asT_x q)
/-- as far as range goes -/
@[irreducible] def rgOk (j : Int) : Bool := decide (-(2 ^ 62) ≤ j) && decide (j < 2 ^ 62)
theorem rgOk_x {j : Int} (h : rgOk j = true) : -(2 ^ 62) ≤ j ∧ j < 2 ^ 62 := by
  unfold rgOk at h
  rw [Bool.and_eq_true] at h
  exact ⟨of_decide_eq_true h.1, of_decide_eq_true h.2⟩
theorem rgOk_nat {k : Nat} (h : k ≤ 5000) : rgOk (k : Int) = true := by
  have k0 : (0 : Int) ≤ (k : Int) := Int.natCast_nonneg k
  have k1 : -(2 ^ 62) ≤ (k : Int) := Int.le_trans (by decide : -(2 ^ 62) ≤ (0 : Int)) k0
  have k2 : (k : Int) < 2 ^ 62 := Int.lt_of_le_of_lt (Int.ofNat_le.mpr h) (by decide)
  unfold rgOk
  rw [decide_eq_true k1, decide_eq_true k2]
  rfl
def iR1 (a : VE) : VI := fun ρ => (a ρ).bind fun x => asI x fun j => need (rgOk j) (.ret (rgD 0 j.toNat))
@[simp] theorem iR1_c (a : VE) (o : Option DVal) (ρ : Dv) : iR1 a (o :: ρ) = (a (o :: ρ)).bind fun x => asI x fun j => need (rgOk j) (.ret (rgD 0 j.toNat)) := rfl
theorem sni_rng1 {t : TE} {a : VE} (s : Snd Ts cm E t a) : SndI Ts cm E (iRng1 (tCons t tNil)) (iR1 a) := fun C X n ρ P hT h => i_rng1 (s.bind hT h fun n1 x q => by
  obtain ⟨j, e, q⟩ := asI_x q
  obtain ⟨h1, h2⟩ := need_x q
  obtain ⟨a1, a2⟩ := rgOk_x h1
  exact ⟨j, e, a1, a2, h2⟩)
def iR2 (a b : VE) : VI := fun ρ => (a ρ).bind fun x => asI x fun i => (b ρ).bind fun y => asI y fun j => need (rgOk i && rgOk j) (.ret (rgD i (j - i).toNat))
@[simp] theorem iR2_c (a b : VE) (o : Option DVal) (ρ : Dv) : iR2 a b (o :: ρ) = (a (o :: ρ)).bind fun x => asI x fun i => (b (o :: ρ)).bind fun y => asI y fun j => need (rgOk i && rgOk j) (.ret (rgD i (j - i).toNat)) := rfl
theorem sni_rng2 {t u : TE} {a b : VE} (s1 : Snd Ts cm E t a) (s2 : Snd Ts cm E u b) : SndI Ts cm E (iRng2 (tCons t (tCons u tNil))) (iR2 a b) := fun C X n ρ P hT h => i_rng2 (s1.bind hT h fun n1 x q => by
  obtain ⟨i, e, q⟩ := asI_x q
  refine ⟨i, e, s2.bind hT q fun n2 y q => ?_⟩
  obtain ⟨j, e, q⟩ := asI_x q
  obtain ⟨h1, h2⟩ := need_x q
  rw [Bool.and_eq_true] at h1
  obtain ⟨a1, a2⟩ := rgOk_x h1.1
  obtain ⟨b1, b2⟩ := rgOk_x h1.2
  exact ⟨j, e, ⟨a1, a2, b1, b2⟩, h2⟩)
def iEnT' (a : VE) : VI := fun ρ => (a ρ).bind fun x => asT x fun ds => .ret (enD ds)
@[simp] theorem iEnT'_c (a : VE) (o : Option DVal) (ρ : Dv) : iEnT' a (o :: ρ) = (a (o :: ρ)).bind fun x => asT x fun ds => .ret (enD ds) := rfl
theorem sni_enT {t : TE} {a : VE} (s : Snd Ts cm E t a) : SndI Ts cm E (iEnT K (tCons t tNil)) (iEnT' a) := fun C X n ρ P hT h => i_enT (s.bind hT h fun n1 x q => asT_x q)
def iEnL' (a : VE) : VI := fun ρ => (a ρ).bind fun x => asL x fun ds => .ret (enD ds)
@[simp] theorem iEnL'_c (a : VE) (o : Option DVal) (ρ : Dv) : iEnL' a (o :: ρ) = (a (o :: ρ)).bind fun x => asL x fun ds => .ret (enD ds) := rfl
theorem sni_enL {t : TE} {a : VE} (s : Snd Ts cm E t a) : SndI Ts cm E (iEnum K (tCons t tNil)) (iEnL' a) := fun C X n ρ P hT h => i_enL (s.bind hT h fun n1 x q => asL_x q)
def iEnS' (i : Nat) : VI := fun ρ => match ρ[i]? with
  | some (some (.d (.list ds))) => .ret (enD ds)
  | some (some (.d (.tuple ds))) => .ret (enD ds)
  | _ => .stuck
@[simp] theorem iEnS'_c (i : Nat) (o : Option DVal) (ρ : Dv) : iEnS' i (o :: ρ) = match (o :: ρ)[i]? with
  | some (some (.d (.list ds))) => .ret (enD ds)
  | some (some (.d (.tuple ds))) => .ret (enD ds)
  | _ => .stuck := rfl
theorem sni_enS {i : Nat} : SndI Ts cm E (iEnS K (tCons (tVar i) tNil)) (iEnS' i) := fun C X n ρ P hT h => by
  unfold iEnS' at h
  split at h
  · next ds e => exact i_enSL (e_var e ⟨ds, rfl, h⟩)
  · next ds e => exact i_enS (e_var e ⟨ds, rfl, h⟩)
  · exact h.elim
def iZipTT (a b : VE) : VI := fun ρ => (a ρ).bind fun x => asT x fun ds => (b ρ).bind fun y => asT y fun es => .ret (zipD ds es)
@[simp] theorem iZipTT_c (a b : VE) (o : Option DVal) (ρ : Dv) : iZipTT a b (o :: ρ) = (a (o :: ρ)).bind fun x => asT x fun ds => (b (o :: ρ)).bind fun y => asT y fun es => .ret (zipD ds es) := rfl
theorem sni_zipTT {t u : TE} {a b : VE} (s1 : Snd Ts cm E t a) (s2 : Snd Ts cm E u b) : SndI Ts cm E (iZipA K (tCons t (tCons u tNil))) (iZipTT a b) := fun C X n ρ P hT h => i_zipTT (s1.bind hT h fun n1 x q => by
  obtain ⟨i, e, q⟩ := asT_x q
  exact ⟨i, e, s2.bind hT q fun n2 y q => asT_x q⟩)
def iZipLL (a b : VE) : VI := fun ρ => (a ρ).bind fun x => asL x fun ds => (b ρ).bind fun y => asL y fun es => .ret (zipD ds es)
@[simp] theorem iZipLL_c (a b : VE) (o : Option DVal) (ρ : Dv) : iZipLL a b (o :: ρ) = (a (o :: ρ)).bind fun x => asL x fun ds => (b (o :: ρ)).bind fun y => asL y fun es => .ret (zipD ds es) := rfl
theorem sni_zipLL {t u : TE} {a b : VE} (s1 : Snd Ts cm E t a) (s2 : Snd Ts cm E u b) : SndI Ts cm E (iZipA K (tCons t (tCons u tNil))) (iZipLL a b) := fun C X n ρ P hT h => i_zipLL (s1.bind hT h fun n1 x q => by
  obtain ⟨i, e, q⟩ := asL_x q
  exact ⟨i, e, s2.bind hT q fun n2 y q => asL_x q⟩)
def iEnZip' (a b : VE) : VI := fun ρ => (a ρ).bind fun x => asT x fun ds => (b ρ).bind fun y => asT y fun es => need (decide (ds.length = es.length)) (.ret (enD (zipD ds es)))
@[simp] theorem iEnZip'_c (a b : VE) (o : Option DVal) (ρ : Dv) : iEnZip' a b (o :: ρ) = (a (o :: ρ)).bind fun x => asT x fun ds => (b (o :: ρ)).bind fun y => asT y fun es => need (decide (ds.length = es.length)) (.ret (enD (zipD ds es))) := rfl
theorem sni_enZip {t u : TE} {a b : VE} (s1 : Snd Ts cm E t a) (s2 : Snd Ts cm E u b) : SndI Ts cm E (iEnZip K (tCons t (tCons u tNil))) (iEnZip' a b) := fun C X n ρ P hT h => i_enZip (s1.bind hT h fun n1 x q => by
  obtain ⟨i, e, q⟩ := asT_x q
  refine ⟨i, e, s2.bind hT q fun n2 y q => ?_⟩
  obtain ⟨j, e, q⟩ := asT_x q
  obtain ⟨h1, h2⟩ := need_x q
  exact ⟨j, e, of_decide_eq_true h1, h2⟩)
def iComb' (a b : VE) : VI := fun ρ => (a ρ).bind fun x => asI x fun i => need (decide (0 ≤ i) && decide (i ≤ 8)) ((b ρ).bind fun y => asI y fun j => need (decide (0 ≤ j) && decide (j ≤ 3)) (.ret (combD i.toNat j.toNat)))
@[simp] theorem iComb'_c (a b : VE) (o : Option DVal) (ρ : Dv) : iComb' a b (o :: ρ) = (a (o :: ρ)).bind fun x => asI x fun i => need (decide (0 ≤ i) && decide (i ≤ 8)) ((b (o :: ρ)).bind fun y => asI y fun j => need (decide (0 ≤ j) && decide (j ≤ 3)) (.ret (combD i.toNat j.toNat))) := rfl
theorem sni_comb {t u : TE} {a b : VE} (s1 : Snd Ts cm E t a) (s2 : Snd Ts cm E u b) : SndI Ts cm E (iComb t u) (iComb' a b) := fun C X n ρ P hT h => i_comb (s1.bind hT h fun n1 x q => by
  obtain ⟨i, e, q⟩ := asI_x q
  obtain ⟨h1, q⟩ := need_x q
  simp only [Bool.and_eq_true, decide_eq_true_eq] at h1
  refine ⟨i.toNat, by rw [e, Int.toNat_of_nonneg h1.1], by omega, s2.bind hT q fun n2 y q => ?_⟩
  obtain ⟨j, e, q⟩ := asI_x q
  obtain ⟨h2, q⟩ := need_x q
  simp only [Bool.and_eq_true, decide_eq_true_eq] at h2
  exact ⟨j.toNat, by rw [e, Int.toNat_of_nonneg h2.1], by omega, q⟩)
/-! #### list comprehensions -/
def lcGo (tg : VG) (vs : List Nat) (tt : VT) (te : VE) (ρ : Dv) : List PyData → T (List PyData)
  | [] => .ret []
  | x :: xs => match tg x (wipeD ρ vs) with
    | none => .stuck
    | some ρ' => (tt ρ').bind fun b => if b = true then (te ρ').bind fun y => asD y fun d => (lcGo tg vs tt te ρ xs).bind fun ds => .ret (d :: ds) else lcGo tg vs tt te ρ xs
def vLc (it : VI) (tg : VG) (tt : VT) (te : VE) (vs : List Nat) : VE := fun ρ => (it ρ).bind fun xs => need (decide (xs.length ≤ 5000)) ((lcGo tg vs tt te ρ xs).nox.bind fun ds => .ret (.d (.list ds)))
theorem vLc_c (it : VI) (tg : VG) (tt : VT) (te : VE) (vs : List Nat) (o : Option DVal) (ρ : Dv) : vLc it tg tt te vs (o :: ρ) = (it (o :: ρ)).bind fun xs => need (decide (xs.length ≤ 5000)) ((lcGo tg vs tt te (o :: ρ) xs).nox.bind fun ds => .ret (.d (.list ds))) := rfl
theorem T.nox_bind {α β : Type} {f : α → T β} : ∀ {t : T α}, (t.bind f).nox = t.nox.bind fun a => (f a).nox
  | .ret _ => rfl
  | .exc _ _ _ => rfl
  | .draw m many k => by
    show T.draw m many _ = T.draw m many _
    congr 1
    funext r
    exact T.nox_bind
  | .stuck => rfl
theorem snd_lc {wi : TI} {g : TG} {tt : TT} {te : TE} {vs sl : List Nat} {it : VI} {tg : VG} {c : VT} {f : VE} (si : SndI Ts cm E wi it) (sg : SndG sl g tg) (hs : ∀ j ∈ sl, j ∈ vs) (st : SndT Ts cm E tt c) (se : Snd Ts cm E te f) :
    Snd Ts cm E (tLc wi g tt te vs) (vLc it tg c f vs) := fun C X n ρ P hT h => e_lc (si.bind hT h fun n1 xs q => by
  obtain ⟨h1, q⟩ := need_x q
  refine ⟨of_decide_eq_true h1, fun i n2 acc => ((lcGo tg vs c f ρ (xs.drop i)).nox).wp (MM C) n2 (fun n3 ds => P n3 (.d (.list (acc ++ ds)))) (xn cm X), by simpa using T.wp_bind.mp q, fun C' le i x n2 acc hx I => ?_, fun n2 acc _ I => ?_⟩
  · obtain ⟨hi, ex⟩ := List.getElem?_eq_some_iff.mp hx
    have I : ((lcGo tg vs c f ρ (xs.drop i)).nox).wp (MM C) n2 (fun n3 ds => P n3 (.d (.list (acc ++ ds)))) (xn cm X) := I
    rw [List.drop_eq_getElem_cons hi, ex] at I
    unfold lcGo at I
    split at I
    · exact I.elim
    · next ρ' e =>
      refine ⟨sl, ρ', hs, sg _ _ _ e, ?_⟩
      rw [T.nox_bind] at I
      have hT' := le.hasT hT
      have I2 := (T.wp_bind.mp I).imp (X' := xn cm X) (MM.le le) (fun _ _ p => p) (fun _ _ _ _ p => p)
      refine (st C' noX n2 ρ' _ hT' (T.wp_nox I2)).imp fun n3 b p => ?_
      by_cases hb : b = true
      · rw [if_pos hb] at p ⊢
        rw [T.nox_bind] at p
        have p2 := (T.wp_bind.mp p).imp (X' := xn cm X) (MM.le le) (fun _ _ p => p) (fun _ _ _ _ p => p)
        refine (se C' noX n3 ρ' _ hT' (T.wp_nox p2)).imp fun n4 y p => ?_
        cases y with
        | d d =>
          refine ⟨d, rfl, ?_⟩
          have p3 : (((lcGo tg vs c f ρ (xs.drop (i + 1))).bind fun ds => T.ret (d :: ds)).nox).wp (MM C) n4 (fun n3 ds => P n3 (.d (.list (acc ++ ds)))) (xn cm X) := p
          rw [T.nox_bind] at p3
          refine (T.wp_bind.mp p3).mono fun n5 ds p => ?_
          rw [List.append_assoc]
          exact p
        | h v => exact p.elim
        | o x => exact p.elim
      · rw [if_neg hb] at p ⊢
        exact p
  · have I : ((lcGo tg vs c f ρ (xs.drop xs.length)).nox).wp (MM C) n2 (fun n3 ds => P n3 (.d (.list (acc ++ ds)))) (xn cm X) := I
    rw [List.drop_length] at I
    simpa [lcGo] using I)
/-- .. of two fors -/
def lc2In (tg1 : VG) (vs1 : List Nat) (tt1 : VT) (te : VE) (ρ' : Dv) : List PyData → T (List PyData)
  | [] => .ret []
  | y :: ys => match tg1 y (wipeD ρ' vs1) with
    | none => .stuck
    | some ρ'' => (tt1 ρ'').bind fun b => if b = true then (te ρ'').bind fun z => asD z fun d => (lc2In tg1 vs1 tt1 te ρ' ys).bind fun ds => .ret (d :: ds) else lc2In tg1 vs1 tt1 te ρ' ys
def lc2Go (tg : VG) (vs : List Nat) (tt : VT) (it1 : VI) (tg1 : VG) (vs1 : List Nat) (tt1 : VT) (te : VE) (ρ : Dv) : List PyData → Nat → T (List PyData)
  | [], _ => .ret []
  | x :: xs, k => match tg x (wipeD ρ vs) with
    | none => .stuck
    | some ρ' => (tt ρ').bind fun b => if b = true then (it1 ρ').bind fun ys => need (decide (k + ys.length ≤ 4999)) ((lc2In tg1 vs1 tt1 te ρ' ys).bind fun ds => (lc2Go tg vs tt it1 tg1 vs1 tt1 te ρ xs (k + ys.length)).bind fun es => .ret (ds ++ es))
      else lc2Go tg vs tt it1 tg1 vs1 tt1 te ρ xs k
def vLc2 (it : VI) (tg : VG) (tt : VT) (it1 : VI) (tg1 : VG) (tt1 : VT) (te : VE) (vs vs1 : List Nat) : VE := fun ρ => (it ρ).bind fun xs => (lc2Go tg vs tt it1 tg1 vs1 tt1 te ρ xs 0).nox.bind fun ds => .ret (.d (.list ds))
theorem vLc2_c (it : VI) (tg : VG) (tt : VT) (it1 : VI) (tg1 : VG) (tt1 : VT) (te : VE) (vs vs1 : List Nat) (o : Option DVal) (ρ : Dv) : vLc2 it tg tt it1 tg1 tt1 te vs vs1 (o :: ρ) = (it (o :: ρ)).bind fun xs => (lc2Go tg vs tt it1 tg1 vs1 tt1 te (o :: ρ) xs 0).nox.bind fun ds => .ret (.d (.list ds)) := rfl
theorem snd_lc2 {wi wi1 : TI} {g g1 : TG} {tt tt1 : TT} {te : TE} {vs vs1 sl sl1 : List Nat} {it it1 : VI} {tg tg1 : VG} {c c1 : VT} {f : VE} (si : SndI Ts cm E wi it) (sg : SndG sl g tg) (hs : ∀ j ∈ sl, j ∈ vs) (st : SndT Ts cm E tt c)
    (si1 : SndI Ts cm E wi1 it1) (sg1 : SndG sl1 g1 tg1) (hs1 : ∀ j ∈ sl1, j ∈ vs1) (st1 : SndT Ts cm E tt1 c1) (se : Snd Ts cm E te f) :
    Snd Ts cm E (tLc2 wi g tt wi1 g1 tt1 te vs vs1) (vLc2 it tg c it1 tg1 c1 f vs vs1) := fun C X n ρ P hT h => e_lc2 (si.bind hT h fun n1 xs q => by
  refine ⟨fun i n2 acc => ∃ k, acc.length ≤ k ∧ ((lc2Go tg vs c it1 tg1 vs1 c1 f ρ (xs.drop i) k).nox).wp (MM C) n2 (fun n3 ds => P n3 (.d (.list (acc ++ ds)))) (xn cm X), ⟨0, Nat.le_refl _, by simpa using T.wp_bind.mp q⟩, fun C' le i x n2 acc hx ⟨k, hk, I⟩ => ?_, fun n2 acc ⟨k, _, I⟩ => ?_⟩
  · obtain ⟨hi, ex⟩ := List.getElem?_eq_some_iff.mp hx
    rw [List.drop_eq_getElem_cons hi, ex] at I
    unfold lc2Go at I
    split at I
    · exact I.elim
    · next ρ' e =>
      refine ⟨sl, ρ', hs, sg _ _ _ e, ?_⟩
      rw [T.nox_bind] at I
      have hT' := le.hasT hT
      have I2 := (T.wp_bind.mp I).imp (X' := xn cm X) (MM.le le) (fun _ _ p => p) (fun _ _ _ _ p => p)
      refine (st C' noX n2 ρ' _ hT' (T.wp_nox I2)).imp fun n3 b p => ?_
      by_cases hb : b = true
      · rw [if_pos hb] at p ⊢
        rw [T.nox_bind] at p
        have p2 := (T.wp_bind.mp p).imp (X' := xn cm X) (MM.le le) (fun _ _ p => p) (fun _ _ _ _ p => p)
        refine IJ.imp (si1 C' noX n3 ρ' _ hT' (T.wp_nox p2)) fun n4 ys p => ?_
        have p' : (need (decide (k + ys.length ≤ 4999)) ((lc2In tg1 vs1 c1 f ρ' ys).bind fun ds => (lc2Go tg vs c it1 tg1 vs1 c1 f ρ (xs.drop (i + 1)) (k + ys.length)).bind fun es => .ret (ds ++ es))).nox.wp (MM C) n4 (fun n3 ds => P n3 (.d (.list (acc ++ ds)))) (xn cm X) := p
        unfold need at p'
        split at p'
        · next hl =>
          have hl' := of_decide_eq_true hl
          rw [T.nox_bind] at p'
          refine ⟨fun j n5 acc2 => acc2.length ≤ acc.length + j ∧ ((lc2In tg1 vs1 c1 f ρ' (ys.drop j)).nox).wp (MM C) n5 (fun n6 ds => (((lc2Go tg vs c it1 tg1 vs1 c1 f ρ (xs.drop (i + 1)) (k + ys.length)).nox).wp (MM C) n6 (fun n3 es => P n3 (.d (.list (acc2 ++ (ds ++ es))))) (xn cm X))) (xn cm X), ⟨by omega, ?_⟩, fun j y n5 acc2 hy ⟨hj, J⟩ => ?_, fun n5 acc2 ⟨hj, J⟩ => ?_⟩
          · rw [List.drop_zero]
            refine (T.wp_bind.mp p').mono fun n6 ds p => ?_
            rw [T.nox_bind] at p
            exact T.wp_bind.mp p
          · obtain ⟨hj', ey⟩ := List.getElem?_eq_some_iff.mp hy
            refine ⟨by omega, ?_⟩
            rw [List.drop_eq_getElem_cons hj', ey] at J
            unfold lc2In at J
            split at J
            · exact J.elim
            · next ρ'' e2 =>
              refine ⟨sl1, ρ'', hs1, sg1 _ _ _ e2, ?_⟩
              rw [T.nox_bind] at J
              have J2 := (T.wp_bind.mp J).imp (X' := xn cm X) (MM.le le) (fun _ _ p => p) (fun _ _ _ _ p => p)
              refine (st1 C' noX n5 ρ'' _ hT' (T.wp_nox J2)).imp fun n6 b2 p => ?_
              by_cases hb2 : b2 = true
              · rw [if_pos hb2] at p ⊢
                rw [T.nox_bind] at p
                have p2 := (T.wp_bind.mp p).imp (X' := xn cm X) (MM.le le) (fun _ _ p => p) (fun _ _ _ _ p => p)
                refine (se C' noX n6 ρ'' _ hT' (T.wp_nox p2)).imp fun n7 z p => ?_
                cases z with
                | d d =>
                  refine ⟨d, rfl, ?_, ?_⟩
                  · rw [List.length_append]
                    show acc2.length + 1 ≤ _
                    omega
                  · have p3 : (((lc2In tg1 vs1 c1 f ρ' (ys.drop (j + 1))).bind fun ds => T.ret (d :: ds)).nox).wp (MM C) n7 _ (xn cm X) := p
                    rw [T.nox_bind] at p3
                    refine (T.wp_bind.mp p3).mono fun n8 ds p => ?_
                    refine T.wp.mono p fun n9 es p => ?_
                    rw [List.append_assoc]
                    exact p
                | h v => exact p.elim
                | o x => exact p.elim
              · rw [if_neg hb2] at p ⊢
                exact ⟨by omega, p⟩
          · rw [List.drop_length] at J
            refine ⟨k + ys.length, by omega, ?_⟩
            simpa [lc2In] using J
        · exact p'.elim
      · rw [if_neg hb] at p ⊢
        exact ⟨k, hk, p⟩
  · rw [List.drop_length] at I
    simpa [lc2Go] using I)
end
end DC
set_option Elab.async false
set_option linter.all false
set_option maxRecDepth 100000
set_option maxHeartbeats 4000000
set_option autoImplicit false
namespace DC
open PySem L2 Gd LamX CpComb RZ PySem.ExG
/-! ### statements: what is one's own may change -/
def RepO (C : Ctx) (S : List Addr) (H : Hp) (v : V) (x : DVal) (L : List Addr) : Prop := match x with
  | .o y => OwnF H (C.vw (offL H S)) v y L
  | .d y => Da (C.vw (offL H S)) v y
  | .h u => v = u
structure EnO (C : Ctx) (S : List Addr) (Ls : List (List Addr)) (n : Nat) (H : Hp) (σ : L2.St) (ρ : Dv) : Prop where
  ll : Ls.length = ρ.length
  nd : Ls.flatten.Nodup
  sub : ∀ a ∈ Ls.flatten, a ∈ S
  inv : (ownC C S).inv n H
  len : σ.length = ρ.length
  get : ∀ (i : Nat) (x : DVal), ρ[i]? = some (some x) → ∃ v, σ[i]? = some (some v) ∧ RepO C S H v x (Ls.getD i [])
section
variable {C : Ctx} {S : List Addr} {Ls : List (List Addr)} {n : Nat} {H : Hp} {σ : L2.St} {ρ : Dv}
theorem getD_sub {Ls : List (List Addr)} {i : Nat} {a : Addr} (h : a ∈ Ls.getD i []) : a ∈ Ls.flatten := by
  rw [List.getD_eq_getElem?_getD] at h
  cases e : Ls[i]? with
  | none => rw [e] at h; cases h
  | some L =>
    rw [e] at h
    exact List.mem_flatten.mpr ⟨L, List.mem_of_getElem? e, h⟩
theorem EnO.en (e : EnO C S Ls n H σ ρ) : En (ownC C S) H σ ρ := ⟨e.len, fun i x h => by
  obtain ⟨v, h1, h2⟩ := e.get i x h
  refine ⟨v, h1, ?_⟩
  cases x with
  | d y => exact h2
  | h u => exact h2
  | o y => exact ⟨_, fun a ha => .inr (e.sub a (getD_sub ha)), h2⟩⟩
theorem EnO.up {n' : Nat} {H' : Hp} (e : EnO C S Ls n H σ ρ) (g : (ownC C S).R H H') (i : (ownC C S).inv n' H') : EnO C S Ls n' H' σ ρ := ⟨e.ll, e.nd, e.sub, i, e.len, fun j x h => by
  obtain ⟨v, h1, h2⟩ := e.get j x h
  refine ⟨v, h1, ?_⟩
  cases x with
  | d y => exact Da.mono (C.vwm g.1) h2
  | h u => exact h2
  | o y => exact h2.mono (C.vwm g.1) fun a o ha q _ => g.2 a o (e.sub a (getD_sub ha)) q⟩
theorem EnO.set {i : Nat} {v : V} {x : DVal} (e : EnO C S Ls n H σ ρ) (r : Rep (ownC C S) H v x) (hx : ∀ y, x ≠ .o y) : EnO C S Ls n H (σ.set i (some v)) (ρ.set i (some x)) :=
  ⟨by rw [List.length_set]; exact e.ll, e.nd, e.sub, e.inv, by rw [List.length_set, List.length_set, e.len], fun j y h => by
    by_cases q : i = j
    · subst q
      rw [List.getElem?_set] at h
      simp only [if_true] at h
      split at h
      · next hl =>
        cases h
        refine ⟨v, by rw [List.getElem?_set]; simp [e.len, hl], ?_⟩
        cases x with
        | d y => exact r
        | h u => exact r
        | o y => exact absurd rfl (hx y)
      · cases h
    · rw [List.getElem?_set_ne q] at h ⊢
      exact e.get j y h⟩
theorem flat_set {Ls : List (List Addr)} {i : Nat} {L : List Addr} {a : Addr} (h : a ∈ (Ls.set i L).flatten) : a ∈ L ∨ a ∈ Ls.flatten := by
  obtain ⟨M, hM, ha⟩ := List.mem_flatten.mp h
  rcases List.mem_or_eq_of_mem_set hM with q | q
  · exact .inr (List.mem_flatten.mpr ⟨M, q, ha⟩)
  · exact .inl (q ▸ ha)
theorem flat_pw : ∀ {Ls : List (List Addr)}, Ls.flatten.Nodup → Ls.Pairwise fun L M => ∀ a, a ∈ L → a ∉ M
  | [], _ => List.Pairwise.nil
  | L :: Ms, h => by
    rw [List.flatten_cons, List.nodup_append] at h
    exact List.pairwise_cons.mpr ⟨fun M hM a ha hb => h.2.2 a ha a (List.mem_flatten.mpr ⟨M, hM, hb⟩) rfl, flat_pw h.2.1⟩
theorem nodup_set : ∀ {Ls : List (List Addr)} {i : Nat} {L : List Addr}, Ls.flatten.Nodup → L.Nodup → (∀ a ∈ L, a ∉ Ls.flatten) → (Ls.set i L).flatten.Nodup
  | [], _, _, h, _, _ => h
  | M :: Ms, 0, L, h, hL, hd => by
    rw [List.set_cons_zero, List.flatten_cons, List.nodup_append]
    rw [List.flatten_cons, List.nodup_append] at h
    exact ⟨hL, h.2.1, fun a ha b hb q => hd a ha (by rw [List.flatten_cons]; exact List.mem_append_right _ (q ▸ hb))⟩
  | M :: Ms, i + 1, L, h, hL, hd => by
    rw [List.set_cons_succ, List.flatten_cons, List.nodup_append]
    rw [List.flatten_cons, List.nodup_append] at h
    refine ⟨h.1, nodup_set h.2.1 hL fun a ha z => hd a ha (by rw [List.flatten_cons]; exact List.mem_append_right _ z), fun a ha b hb q => ?_⟩
    rcases flat_set hb with z | z
    · exact hd b z (by rw [List.flatten_cons]; exact List.mem_append_left _ (q ▸ ha))
    · exact h.2.2 a ha b z q
/-- a slot gets a new list of its own -/
theorem EnO.own {i : Nat} {q : Addr} {vs : List V} {ds : List PyData} {n' : Nat} {H' : Hp} (e : EnO C S Ls n H σ ρ) (g : (ownC C S).R H (off H' q)) (I : (ownC C S).inv n' (off H' q)) (hq : H' q = some (.lst vs)) (nh : ¬ C.hid q) (r : DaL (C.vw (offL (off H' q) S)) vs ds) :
    EnO C (q :: S) (Ls.set i [q]) n' H' (σ.set i (some (.ref q))) (ρ.set i (some (.o (.l ds)))) ∧ offL H' (q :: S) = offL (off H' q) S := by
  have qS : q ∉ S := fun z => by
    obtain ⟨⟨u, e1, _⟩, _⟩ := I.2 q z
    rw [off_at] at e1; cases e1
  have eo : offL H' (q :: S) = offL (off H' q) S := by
    funext x
    by_cases hx : x = q
    · rw [hx, offL_in List.mem_cons_self, offL_out qS, off_at]
    · by_cases hx2 : x ∈ S
      · rw [offL_in (List.mem_cons_of_mem _ hx2), offL_in hx2]
      · rw [offL_out hx2, off_ne hx, offL_out (fun z => by
          rcases List.mem_cons.mp z with z | z
          · exact hx z
          · exact hx2 z)]
  have e1 := e.up g I
  refine ⟨⟨by rw [List.length_set, List.length_set]; exact e.ll, nodup_set e.nd (List.nodup_cons.mpr ⟨by simp, List.nodup_nil⟩) fun a ha z => ?_, fun a ha => ?_, ⟨by rw [eo]; exact I.1, fun a ha => ?_⟩, by rw [List.length_set, List.length_set, e.len], fun j y h => ?_⟩, eo⟩
  · rw [List.mem_singleton.mp ha] at z
    exact qS (e.sub q z)
  · rcases flat_set ha with z | z
    · rw [List.mem_singleton.mp z]; exact List.mem_cons_self
    · exact List.mem_cons_of_mem _ (e.sub a z)
  · rcases List.mem_cons.mp ha with z | z
    · subst z
      exact ⟨⟨_, hq, rfl⟩, nh⟩
    · obtain ⟨⟨u, e2, hu⟩, hh⟩ := I.2 a z
      exact ⟨⟨u, (off_some e2).2, hu⟩, hh⟩
  · by_cases z : i = j
    · subst z
      rw [List.getElem?_set] at h
      simp only [if_true] at h
      split at h
      · next hl =>
        cases h
        refine ⟨.ref q, by rw [List.getElem?_set]; simp [e.len, hl], q, vs, rfl, ?_, hq, by rw [eo]; exact r⟩
        rw [List.getD_eq_getElem?_getD, List.getElem?_set_self (by rw [e.ll]; exact hl)]
        rfl
      · cases h
    · rw [List.getElem?_set_ne z] at h ⊢
      obtain ⟨v, h1, h2⟩ := e1.get j y h
      refine ⟨v, h1, ?_⟩
      rw [List.getD_eq_getElem?_getD, List.getElem?_set_ne z, ← List.getD_eq_getElem?_getD]
      cases y with
      | d y =>
        show Da (C.vw (offL H' (q :: S))) v y
        rw [eo]; exact h2
      | h u => exact h2
      | o y =>
        show OwnF H' (C.vw (offL H' (q :: S))) v y _
        rw [eo]
        exact h2.mono (fun _ _ h => h) fun a o _ q _ => (off_some q).2
/-- the list of a slot has changed -/
theorem EnO.put {i : Nat} {q : Addr} {vs : List V} {ds es : List PyData} (e : EnO C S Ls n H σ ρ) (hi : ρ[i]? = some (some (.o (.l es)))) (hL : Ls.getD i [] = [q]) (hv : σ[i]? = some (some (.ref q))) (r : DaL (C.vw (offL H S)) vs ds) :
    EnO C S Ls n (upd H q (.lst vs)) σ (ρ.set i (some (.o (.l ds)))) ∧ offL (upd H q (.lst vs)) S = offL H S := by
  have qS : q ∈ S := e.sub q (getD_sub (i := i) (by rw [hL]; exact List.mem_singleton_self q))
  have eo : offL (upd H q (.lst vs)) S = offL H S := offL_upd_in qS
  refine ⟨⟨by rw [List.length_set]; exact e.ll, e.nd, e.sub, ⟨by rw [eo]; exact e.inv.1, fun a ha => ?_⟩, by rw [List.length_set, e.len], fun j y h => ?_⟩, eo⟩
  · obtain ⟨⟨u, e1, hu⟩, hh⟩ := e.inv.2 a ha
    refine ⟨?_, hh⟩
    by_cases z : a = q
    · rw [z]; exact ⟨_, upd_same, rfl⟩
    · exact ⟨u, by rw [upd_ne z]; exact e1, hu⟩
  · by_cases z : i = j
    · subst z
      rw [List.getElem?_set] at h
      simp only [if_true] at h
      split at h
      · cases h
        exact ⟨_, hv, q, vs, rfl, hL, upd_same, by rw [eo]; exact r⟩
      · cases h
    · rw [List.getElem?_set_ne z] at h
      obtain ⟨v, h1, h2⟩ := e.get j y h
      refine ⟨v, h1, ?_⟩
      cases y with
      | d y =>
        show Da (C.vw (offL (upd H q (.lst vs)) S)) v y
        rw [eo]; exact h2
      | h u => exact h2
      | o y =>
        show OwnF _ (C.vw (offL (upd H q (.lst vs)) S)) v y _
        rw [eo]
        refine h2.mono (fun _ _ h => h) fun a o ha e1 _ => ?_
        have : a ≠ q := fun w => by
          subst w
          -- both slots hold q
          have nd := e.nd
          have hi2 : Ls[i]? = some [a] := by
            rw [List.getD_eq_getElem?_getD] at hL
            cases q1 : Ls[i]? with
            | none => rw [q1] at hL; cases hL
            | some L => rw [q1] at hL; exact congrArg some hL
          rw [List.getD_eq_getElem?_getD] at ha
          cases q2 : Ls[j]? with
          | none => rw [q2] at ha; cases ha
          | some M =>
            rw [q2] at ha
            have haM : a ∈ M := ha
            have hpw := flat_pw nd
            obtain ⟨i1, i2⟩ := List.getElem?_eq_some_iff.mp hi2
            obtain ⟨j1, j2⟩ := List.getElem?_eq_some_iff.mp q2
            rcases Nat.lt_or_gt_of_ne z with hlt | hlt
            · have := List.pairwise_iff_getElem.mp hpw i j i1 j1 hlt
              rw [i2, j2] at this
              exact this _ (List.mem_singleton_self a) haM
            · have := List.pairwise_iff_getElem.mp hpw j i j1 i1 hlt
              rw [i2, j2] at this
              exact this _ haM (List.mem_singleton_self a)
        rw [upd_ne this]; exact e1
/-- a slot's list is told: it changes no more -/
def frz (i : Nat) (ρ : Dv) : Dv := match ρ[i]? with
  | some (some (.o y)) => ρ.set i (some (.d y.up))
  | _ => ρ
@[simp] theorem frz_c (i : Nat) (o : Option DVal) (ρ : Dv) : frz i (o :: ρ) = match (o :: ρ)[i]? with
    | some (some (.o y)) => (o :: ρ).set i (some (.d y.up))
    | _ => o :: ρ := rfl
theorem EnO.frz {i : Nat} (e : EnO C S Ls n H σ ρ) : ∃ S' Ls', EnO C S' Ls' n H σ (DC.frz i ρ) ∧ C.R (offL H S) (offL H S') := by
  unfold DC.frz
  split
  · next y hy =>
    obtain ⟨v, h1, h2⟩ := e.get i _ hy
    have hlt : i < ρ.length := (List.getElem?_eq_some_iff.mp hy).1
    cases y with
    | l ds =>
    obtain ⟨q, vs, rfl, hL, hq, hr⟩ := h2
    have qS : q ∈ S := e.sub q (getD_sub (i := i) (by rw [hL]; exact List.mem_singleton_self q))
    have hLs : Ls.set i [] = Ls.set i [] := rfl
    obtain ⟨u1, u2, u3⟩ := unhide (T := S.filter fun a => decide (a ≠ q)) e.inv fun a ha => (List.mem_filter.mp ha).1
    have gone : C.vw (offL H (S.filter fun a => decide (a ≠ q))) q = some (.lst vs) := u3 q qS (fun z => by simpa using (List.mem_filter.mp z).2) _ hq
    -- q stands nowhere else
    have hi2 : Ls[i]? = some [q] := by
      rw [List.getD_eq_getElem?_getD] at hL
      cases q1 : Ls[i]? with
      | none => rw [q1] at hL; cases hL
      | some L => rw [q1] at hL; exact congrArg some hL
    have other : ∀ j, j ≠ i → q ∉ Ls.getD j [] := fun j hj ha => by
      rw [List.getD_eq_getElem?_getD] at ha
      cases q2 : Ls[j]? with
      | none => rw [q2] at ha; cases ha
      | some M =>
        rw [q2] at ha
        have haM : q ∈ M := ha
        have hpw := flat_pw e.nd
        obtain ⟨i1, i2⟩ := List.getElem?_eq_some_iff.mp hi2
        obtain ⟨j1, j2⟩ := List.getElem?_eq_some_iff.mp q2
        rcases Nat.lt_or_gt_of_ne hj with hlt | hlt
        · have := List.pairwise_iff_getElem.mp hpw j i j1 i1 hlt
          rw [i2, j2] at this
          exact this _ haM (List.mem_singleton_self q)
        · have := List.pairwise_iff_getElem.mp hpw i j i1 j1 hlt
          rw [i2, j2] at this
          exact this _ (List.mem_singleton_self q) haM
    refine ⟨_, Ls.set i [], ⟨by rw [List.length_set, List.length_set]; exact e.ll, nodup_set e.nd List.nodup_nil (fun a ha => by cases ha), fun a ha => ?_, u2, by rw [List.length_set, e.len], fun j y h => ?_⟩, u1⟩
    · rcases flat_set ha with z | z
      · cases z
      · refine List.mem_filter.mpr ⟨e.sub a z, decide_eq_true fun w => ?_⟩
        subst w
        obtain ⟨M, hM, haM⟩ := List.mem_flatten.mp ha
        obtain ⟨j, hj, ej⟩ := List.mem_iff_getElem.mp hM
        rw [List.length_set] at hj
        by_cases hji : j = i
        · subst hji
          rw [List.getElem_set_self] at ej
          rw [← ej] at haM
          cases haM
        · rw [List.getElem_set_ne (fun z => hji z.symm)] at ej
          refine other j hji ?_
          rw [List.getD_eq_getElem?_getD, List.getElem?_eq_getElem hj, ej]
          exact haM
    · by_cases z : i = j
      · subst z
        rw [List.getElem?_set_self hlt] at h
        cases h
        exact ⟨_, h1, Da.lst gone (DaL.mono (C.vwm u1) hr)⟩
      · rw [List.getElem?_set_ne z] at h
        obtain ⟨w, k1, k2⟩ := e.get j y h
        refine ⟨w, k1, ?_⟩
        rw [List.getD_eq_getElem?_getD, List.getElem?_set_ne z, ← List.getD_eq_getElem?_getD]
        cases y with
        | d y => exact Da.mono (C.vwm u1) k2
        | h u => exact k2
        | o y => exact k2.mono (C.vwm u1) fun a o _ e1 _ => e1
  · exact ⟨S, Ls, e, C.refl _⟩
structure EndsO (C : Ctx) (G : Hp) (D : Ends) (p : Post) : Prop where
  nx : ∀ σ' ρ' n' H' S' Ls', C.R G (offL H' S') → EnO C S' Ls' n' H' σ' ρ' → p.nx n' ρ' → D.nx σ' H'
  rt : ∀ v x n' H', C.R G H' → C.inv n' H' → Rep C H' v x → p.rt n' x → D.rt v H'
  bk : ∀ σ' ρ' n' H' S' Ls', C.R G (offL H' S') → EnO C S' Ls' n' H' σ' ρ' → p.bk n' ρ' → D.bk σ' H'
  ct : ∀ σ' ρ' n' H' S' Ls', C.R G (offL H' S') → EnO C S' Ls' n' H' σ' ρ' → p.ct n' ρ' → D.ct σ' H'
theorem EndsO.up {G G' : Hp} {D : Ends} {p : Post} (e : EndsO C G D p) (g : C.R G G') : EndsO C G' D p :=
  ⟨fun a b c d s l k => e.nx a b c d s l (C.trans g k), fun a b c d k => e.rt a b c d (C.trans g k), fun a b c d s l k => e.bk a b c d s l (C.trans g k), fun a b c d s l k => e.ct a b c d s l (C.trans g k)⟩
theorem full {n : Nat} {H : Hp} (i : (ownC C S).inv n H) : C.R (offL H S) H ∧ C.inv n H := by
  obtain ⟨a, b, _⟩ := unhide (T := []) i fun a h => by cases h
  rw [offL_nil] at a
  have := b.1
  rw [offL_nil] at this
  exact ⟨a, this⟩
theorem xok_own {H : Hp} {E : XK} {X : XP} (x : XOk C (offL H S) E X) : XOk (ownC C S) H E X := fun cls f dd v d n H' g i e r q => by
  obtain ⟨a, b⟩ := full i
  exact x cls f dd v d n H' (C.trans g.1 a) b (C.vwm a _ _ e) (Da.mono (C.vwm a) r) q
end
def SO (C : Ctx) (E : XK) (X : XP) (n : Nat) (ρ : Dv) (t : TS) (p : Post) : Prop := ∀ σ H D S Ls, EnO C S Ls n H σ ρ → XOk C (offL H S) E X → EndsO C (offL H S) D p → t D σ H
inductive Out where
  | nx (ρ : Dv)
  | rt (x : DVal)
  | bk (ρ : Dv)
  | ct (ρ : Dv)
def pOut (p : Post) (n : Nat) (o : Out) : Prop := match o with
  | .nx ρ => p.nx n ρ
  | .rt x => p.rt n x
  | .bk ρ => p.bk n ρ
  | .ct ρ => p.ct n ρ
abbrev VS := Dv → T Out
def SndS (Ts : List (Addr × Str)) (cm : Nat → Addr) (E : XK) (t : TS) (f : VS) : Prop := ∀ (C : Ctx) (X : XP) (n : Nat) (ρ : Dv) (p : Post), HasT Ts C → (f ρ).wp (MM C) n (pOut p) (xn cm X) → SO C E X n ρ t p
theorem MM.own {C : Ctx} {S : List Addr} : ∀ v, MM C v → MM (ownC C S) v := fun v ⟨a, c, e, h⟩ => ⟨a, c, e, h.own⟩
section
variable {Ts : List (Addr × Str)} {cm : Nat → Addr} {E : XK} {K : PySem.W.Frag}
theorem Snd.own {C : Ctx} {S : List Addr} {X : XP} {n : Nat} {ρ : Dv} {P : Nat → DVal → Prop} {t : TE} {f : VE} (s : Snd Ts cm E t f) (hT : HasT Ts C) (h : (f ρ).wp (MM C) n P (xn cm X)) : EJ (ownC C S) E X n ρ t P := s (ownC C S) X n ρ P hT.own (h.imp MM.own (fun _ _ p => p) fun _ _ _ _ p => p)
theorem SndT.own {C : Ctx} {S : List Addr} {X : XP} {n : Nat} {ρ : Dv} {P : Nat → Bool → Prop} {t : TT} {f : VT} (s : SndT Ts cm E t f) (hT : HasT Ts C) (h : (f ρ).wp (MM C) n P (xn cm X)) : TJ (ownC C S) E X n ρ t P := s (ownC C S) X n ρ P hT.own (h.imp MM.own (fun _ _ p => p) fun _ _ _ _ p => p)
theorem SndA.own {C : Ctx} {S : List Addr} {X : XP} {n : Nat} {ρ : Dv} {P : Nat → List DVal → Prop} {t : TA} {f : VA} (s : SndA Ts cm E t f) (hT : HasT Ts C) (h : (f ρ).wp (MM C) n P (xn cm X)) : AJ (ownC C S) E X n ρ t P := s (ownC C S) X n ρ P hT.own (h.imp MM.own (fun _ _ p => p) fun _ _ _ _ p => p)
theorem SndI.own {C : Ctx} {S : List Addr} {X : XP} {n : Nat} {ρ : Dv} {P : Nat → List PyData → Prop} {t : TI} {f : VI} (s : SndI Ts cm E t f) (hT : HasT Ts C) (h : (f ρ).wp (MM C) n P (xn cm X)) : IJ (ownC C S) E X n ρ t P := s (ownC C S) X n ρ P hT.own (h.imp MM.own (fun _ _ p => p) fun _ _ _ _ p => p)
def sFrz (i : Nat) (f : VS) : VS := fun ρ => f (frz i ρ)
@[simp] theorem sFrz_c (i : Nat) (f : VS) (o : Option DVal) (ρ : Dv) : sFrz i f (o :: ρ) = f (frz i (o :: ρ)) := rfl
theorem sns_frz {i : Nat} {t : TS} {f : VS} (s : SndS Ts cm E t f) : SndS Ts cm E t (sFrz i f) := fun C X n ρ p hT h σ H D S Ls e x k => by
  obtain ⟨S', Ls', e', g⟩ := e.frz (i := i)
  exact s C X n _ p hT h σ H D S' Ls' e' (x.up g) (k.up g)
def sSeq (a b : VS) : VS := fun ρ => (a ρ).bind fun o => match o with
  | .nx ρ' => b ρ'
  | .rt x => .ret (.rt x)
  | .bk ρ2 => .ret (.bk ρ2)
  | .ct ρ2 => .ret (.ct ρ2)
@[simp] theorem sSeq_c (a b : VS) (o : Option DVal) (ρ : Dv) : sSeq a b (o :: ρ) = (a (o :: ρ)).bind fun o => match o with
  | .nx ρ' => b ρ'
  | .rt x => .ret (.rt x)
  | .bk ρ2 => .ret (.bk ρ2)
  | .ct ρ2 => .ret (.ct ρ2) := rfl
theorem sns_seq {t u : TS} {a b : VS} (s1 : SndS Ts cm E t a) (s2 : SndS Ts cm E u b) : SndS Ts cm E (tSeq t u) (sSeq a b) := fun C X n ρ p hT h σ H D S Ls e x k => by
  refine s1 C X n ρ ⟨fun n1 ρ1 => (b ρ1).wp (MM C) n1 (pOut p) (xn cm X), p.rt, p.bk, p.ct⟩ hT ((T.wp_bind.mp h).mono fun n1 o q => ?_) σ H { D with nx := u D } S Ls e x ⟨fun σ' ρ' n' H' S' Ls' g e' q => s2 C X n' ρ' p hT q σ' H' D S' Ls' e' (x.up g) (k.up g), k.rt, k.bk, k.ct⟩
  cases o <;> exact q
def sNext : VS := fun ρ => .ret (.nx ρ)
@[simp] theorem sNext_c (o : Option DVal) (ρ : Dv) : sNext (o :: ρ) = .ret (.nx (o :: ρ)) := rfl
theorem sns_next : SndS Ts cm E tNext sNext := fun C X n ρ p hT h σ H D S Ls e x k => k.nx σ ρ n H S Ls (C.refl _) e h
def sRetN : VS := fun _ => .ret (.rt (.d .none))
@[simp] theorem sRetN_c (o : Option DVal) (ρ : Dv) : sRetN (o :: ρ) = .ret (.rt (.d .none)) := rfl
theorem sns_retN : SndS Ts cm E tRetN sRetN := fun C X n ρ p hT h σ H D S Ls e x k => by
  obtain ⟨a, b⟩ := full e.inv
  exact k.rt _ _ n H a b .non h
def sBrk : VS := fun ρ => .ret (.bk ρ)
@[simp] theorem sBrk_c (o : Option DVal) (ρ : Dv) : sBrk (o :: ρ) = .ret (.bk (o :: ρ)) := rfl
theorem sns_brk : SndS Ts cm E tBreak sBrk := fun C X n ρ p hT h σ H D S Ls e x k => k.bk σ ρ n H S Ls (C.refl _) e h
def sCont : VS := fun ρ => .ret (.ct ρ)
@[simp] theorem sCont_c (o : Option DVal) (ρ : Dv) : sCont (o :: ρ) = .ret (.ct (o :: ρ)) := rfl
theorem sns_cont : SndS Ts cm E tCont sCont := fun C X n ρ p hT h σ H D S Ls e x k => k.ct σ ρ n H S Ls (C.refl _) e h
/-- no value of one's own -/
def noO {α : Type} (x : DVal) (t : T α) : T α := match x with
  | .o _ => .stuck
  | _ => t
@[simp] theorem noO_0 {α : Type} (x : PyData) (t : T α) : noO (.d x) t = t := rfl
@[simp] theorem noO_1 {α : Type} (x : V) (t : T α) : noO (.h x) t = t := rfl
@[simp] theorem noO_2 {α : Type} (x : OD) (t : T α) : noO (.o x) t = .stuck := rfl
theorem noO_x {α : Type} {M : V → Prop} {n : Nat} {P : Nat → α → Prop} {X : XN} {x : DVal} {t : T α} (h : (noO x t).wp M n P X) : (∀ y, x ≠ .o y) ∧ t.wp M n P X := by
  cases x with
  | d y => exact ⟨fun y z => by (cases z), h⟩
  | h y => exact ⟨fun y z => by (cases z), h⟩
  | o y => exact h.elim
def sRet (f : VE) : VS := fun ρ => (f ρ).bind fun x => noO x (.ret (.rt x))
@[simp] theorem sRet_c (f : VE) (o : Option DVal) (ρ : Dv) : sRet f (o :: ρ) = (f (o :: ρ)).bind fun x => noO x (.ret (.rt x)) := rfl
theorem sns_ret {t : TE} {f : VE} (s : Snd Ts cm E t f) : SndS Ts cm E (tRet t) (sRet f) := fun C X n ρ p hT h σ H D S Ls e x k =>
  (s.own hT (T.wp_bind.mp h)) σ H _ e.inv e.en (xok_own x) fun v y n' H' g i r q => by
    obtain ⟨hy, q⟩ := noO_x q
    obtain ⟨a, b⟩ := full i
    refine k.rt v y n' H' (C.trans g.1 a) b ?_ q
    cases y with
    | d y => exact Da.mono (C.vwm a) r
    | h u => exact r
    | o y => exact absurd rfl (hy y)
def sAsg (i : Nat) (f : VE) : VS := fun ρ => (f ρ).bind fun x => noO x (.ret (.nx (ρ.set i (some x))))
@[simp] theorem sAsg_c (i : Nat) (f : VE) (o : Option DVal) (ρ : Dv) : sAsg i f (o :: ρ) = (f (o :: ρ)).bind fun x => noO x (.ret (.nx ((o :: ρ).set i (some x)))) := rfl
theorem sns_asg {t : TE} {f : VE} {i : Nat} (s : Snd Ts cm E t f) : SndS Ts cm E (tAsg t (gName i)) (sAsg i f) := fun C X n ρ p hT h σ H D S Ls e x k =>
  (s.own hT (T.wp_bind.mp h)) σ H _ e.inv e.en (xok_own x) fun v y n' H' g j r q => by
    obtain ⟨hy, q⟩ := noO_x q
    exact k.nx _ _ n' H' S Ls g.1 ((e.up g j).set r hy) q
def sDrop (f : VE) : VS := fun ρ => (f ρ).bind fun _ => .ret (.nx ρ)
@[simp] theorem sDrop_c (f : VE) (o : Option DVal) (ρ : Dv) : sDrop f (o :: ρ) = (f (o :: ρ)).bind fun _ => .ret (.nx (o :: ρ)) := rfl
theorem sns_drop {t : TE} {f : VE} (s : Snd Ts cm E t f) : SndS Ts cm E (tDrop t) (sDrop f) := fun C X n ρ p hT h σ H D S Ls e x k =>
  (s.own hT (T.wp_bind.mp h)) σ H _ e.inv e.en (xok_own x) fun v y n' H' g j r q => k.nx _ _ n' H' S Ls g.1 (e.up g j) q
def sIf (c : VT) (a b : VS) : VS := fun ρ => (c ρ).bind fun x => if x = true then a ρ else b ρ
@[simp] theorem sIf_c (c : VT) (a b : VS) (o : Option DVal) (ρ : Dv) : sIf c a b (o :: ρ) = (c (o :: ρ)).bind fun x => if x = true then a (o :: ρ) else b (o :: ρ) := rfl
theorem sns_if {c : TT} {t u : TS} {f : VT} {a b : VS} (s0 : SndT Ts cm E c f) (s1 : SndS Ts cm E t a) (s2 : SndS Ts cm E u b) : SndS Ts cm E (tIfS c t u) (sIf f a b) := fun C X n ρ p hT h σ H D S Ls e x k =>
  (s0.own hT (T.wp_bind.mp h)) σ H _ e.inv e.en (xok_own x) fun bb n' H' g j q => by
    replace q : (if bb = true then a ρ else b ρ).wp (MM C) n' (pOut p) (xn cm X) := q
    by_cases hb : bb = true
    · rw [if_pos hb] at q ⊢
      exact s1 C X n' ρ p hT q σ H' D S Ls (e.up g j) (x.up g.1) (k.up g.1)
    · rw [if_neg hb] at q ⊢
      exact s2 C X n' ρ p hT q σ H' D S Ls (e.up g j) (x.up g.1) (k.up g.1)
def sPar (i j : Nat) (a : VA) : VS := fun ρ => (a ρ).bind fun xs => match xs with
  | [x, y] => noO x (noO y (.ret (.nx ((ρ.set i (some x)).set j (some y)))))
  | _ => .stuck
@[simp] theorem sPar_c (i j : Nat) (a : VA) (o : Option DVal) (ρ : Dv) : sPar i j a (o :: ρ) = (a (o :: ρ)).bind fun xs => match xs with
  | [x, y] => noO x (noO y (.ret (.nx (((o :: ρ).set i (some x)).set j (some y)))))
  | _ => .stuck := rfl
theorem sns_par {ta : TA} {a : VA} {i j : Nat} (s : SndA Ts cm E ta a) : SndS Ts cm E (tPar i j ta) (sPar i j a) := fun C X n ρ p hT h σ H D S Ls e x k =>
  (s.own hT (T.wp_bind.mp h)) σ H _ e.inv e.en (xok_own x) fun vs xs n' H' g j' r q => by
    dsimp only at q
    split at q
    · next x1 y1 =>
      obtain ⟨hx, q⟩ := noO_x q
      obtain ⟨hy, q⟩ := noO_x q
      obtain ⟨v, u, rfl, r1, r2⟩ := repL2 r
      exact ⟨v, u, rfl, k.nx _ _ n' H' S Ls g.1 (((e.up g j').set r1 hx).set r2 hy) q⟩
    · exact q.elim
def sRaise (c : Nat) (f : Str) (a : VA) : VS := fun ρ => (a ρ).bind fun xs => match xs with
  | [.d d] => .exc c f d
  | _ => .stuck
@[simp] theorem sRaise_c (c : Nat) (f : Str) (a : VA) (o : Option DVal) (ρ : Dv) : sRaise c f a (o :: ρ) = (a (o :: ρ)).bind fun xs => match xs with
  | [.d d] => .exc c f d
  | _ => .stuck := rfl
theorem sns_raise {ta : TA} {a : VA} {c : Nat} {f : Str} (s : SndA Ts cm E ta a) : SndS Ts cm E (tRaiseEx (cm c) f (fun cls d _ H => E cls d H) ta) (sRaise c f a) := fun C X n ρ p hT h σ H D S Ls e x k =>
  (s.own hT (T.wp_bind.mp h)) σ H _ e.inv e.en (xok_own x) fun vs xs n' H' g j' r q => by
    dsimp only at q
    split at q
    · next d =>
      obtain ⟨v, rfl, rv⟩ := repL1 r
      refine ⟨v, rfl, fun dd hdd => ?_⟩
      obtain ⟨a, b, c'⟩ := (ownC C S).new (.xd [(f, v)]) j' hdd
      exact xok_own x (cm c) f dd v d n' _ ((ownC C S).trans g a) b c' (Da.mono ((ownC C S).vwm a) rv) q
    · exact q.elim
/-! #### targets -/
def GJO (g : TG) (x : PyData) (ρ ρ' : Dv) : Prop := ∀ (C : Ctx) (S : List Addr) (Ls : List (List Addr)) (n : Nat) (H : Hp) (v : V) (σ : L2.St) (R : L2.St → Hp → Prop), Rep (ownC C S) H v (.d x) → EnO C S Ls n H σ ρ →
  (∀ σ', EnO C S Ls n H σ' ρ' → R σ' H) → g v σ H R
def SndGO (g : TG) (f : VG) : Prop := ∀ (x : PyData) (ρ ρ' : Dv), f x ρ = some ρ' → GJO g x ρ ρ'
theorem sgo_name {i : Nat} : SndGO (gName i) (gN i) := fun x ρ ρ' h => by
  cases h
  exact fun C S Ls n H v σ R r e k => k _ (e.set (x := .d x) r fun y z => by cases z)
theorem sgo_two {a b : TG} {f g : VG} {k : Nat} (hk : k = 2) (h1 : SndGO a f) (h2 : SndGO b g) : SndGO (gTup K k (gCons a (gCons b gNil))) (g2 f g) := fun x ρ ρ' h => by
  unfold g2 at h
  split at h
  · next d e =>
    cases q : f d ρ with
    | none => rw [q] at h; cases h
    | some ρ1 =>
      rw [q] at h
      intro C S Ls n H v σ R r en kk
      obtain ⟨c, xs, rfl, hc, hx⟩ := da_tuple r
      cases hx with
      | cons ha hx =>
        cases hx with
        | cons hb hx =>
          cases hx
          exact ⟨c, _, rfl, SqT.of ((ownC C S).sub _ _ hc), hk.symm, _, _, rfl, h1 _ _ _ q C S Ls n H _ σ _ ha en fun σ1 e1 => ⟨_, _, rfl, h2 _ _ _ h C S Ls n H _ σ1 _ hb e1 fun σ2 e2 => ⟨rfl, kk σ2 e2⟩⟩⟩
  · cases h
theorem sgo_three {a b c : TG} {f g i : VG} {k : Nat} (hk : k = 3) (h1 : SndGO a f) (h2 : SndGO b g) (h3 : SndGO c i) : SndGO (gTup K k (gCons a (gCons b (gCons c gNil)))) (g3 f g i) := fun x ρ ρ' h => by
  unfold g3 at h
  split at h
  · next d e u =>
    cases q : f d ρ with
    | none => rw [q] at h; cases h
    | some ρ1 =>
      rw [q] at h
      simp only [Option.bind_some] at h
      cases q2 : g e ρ1 with
      | none => rw [q2] at h; cases h
      | some ρ2 =>
        rw [q2] at h
        intro C S Ls n H v σ R r en kk
        obtain ⟨cc, xs, rfl, hc, hx⟩ := da_tuple r
        cases hx with
        | cons ha hx =>
          cases hx with
          | cons hb hx =>
            cases hx with
            | cons hcc hx =>
              cases hx
              exact ⟨cc, _, rfl, SqT.of ((ownC C S).sub _ _ hc), hk.symm, _, _, rfl, h1 _ _ _ q C S Ls n H _ σ _ ha en fun σ1 e1 => ⟨_, _, rfl, h2 _ _ _ q2 C S Ls n H _ σ1 _ hb e1 fun σ2 e2 => ⟨_, _, rfl, h3 _ _ _ h C S Ls n H _ σ2 _ hcc e2 fun σ3 e3 => ⟨rfl, kk σ3 e3⟩⟩⟩⟩
  · cases h
/-- a, b = e -/
def sUnp (tg : VG) (f : VE) : VS := fun ρ => (f ρ).bind fun x => asD x fun d => match tg d ρ with
  | some ρ' => .ret (.nx ρ')
  | none => .stuck
@[simp] theorem sUnp_c (tg : VG) (f : VE) (o : Option DVal) (ρ : Dv) : sUnp tg f (o :: ρ) = (f (o :: ρ)).bind fun x => asD x fun d => match tg d (o :: ρ) with
  | some ρ' => .ret (.nx ρ')
  | none => .stuck := rfl
theorem sns_unp {t : TE} {f : VE} {g : TG} {tg : VG} (s : Snd Ts cm E t f) (sg : SndGO g tg) : SndS Ts cm E (tAsg t g) (sUnp tg f) := fun C X n ρ p hT h σ H D S Ls e x k =>
  (s.own hT (T.wp_bind.mp h)) σ H _ e.inv e.en (xok_own x) fun v y n' H' gg j r q => by
    obtain ⟨d, ey, q2⟩ := asD_x q
    clear q
    subst ey
    split at q2
    · next ρ' eg => exact sg _ _ _ eg C S Ls n' H' v σ _ r (e.up gg j) fun σ' e' => k.nx σ' ρ' n' H' S Ls gg.1 e' q2
    · exact q2.elim
/-! #### for -/
def forGo (tg : VG) (b : VS) : List PyData → Dv → T Out
  | [], ρ => .ret (.nx ρ)
  | x :: xs, ρ => match tg x ρ with
    | none => .stuck
    | some ρ1 => (b ρ1).bind fun o => match o with
      | .nx ρ2 => forGo tg b xs ρ2
      | .ct ρ2 => forGo tg b xs ρ2
      | .bk ρ2 => .ret (.nx ρ2)
      | .rt x => .ret (.rt x)
def sFor (it : VI) (tg : VG) (b : VS) : VS := fun ρ => (it ρ).bind fun xs => forGo tg b xs ρ
@[simp] theorem sFor_c (it : VI) (tg : VG) (b : VS) (o : Option DVal) (ρ : Dv) : sFor it tg b (o :: ρ) = (it (o :: ρ)).bind fun xs => forGo tg b xs (o :: ρ) := rfl
theorem EnO.same {C : Ctx} {S : List Addr} {Ls : List (List Addr)} {n : Nat} {H H' : Hp} {σ : L2.St} {ρ : Dv} (e : EnO C S Ls n H σ ρ) (s : Same H H') : (ownC C S).R H H' ∧ EnO C S Ls n H' σ ρ := by
  obtain ⟨a, b⟩ := (ownC C S).same e.inv s
  exact ⟨a, e.up a b⟩
theorem sns_for {wi : TI} {g : TG} {tb : TS} {it : VI} {tg : VG} {b : VS} (si : SndI Ts cm E wi it) (sg : SndGO g tg) (sb : SndS Ts cm E tb b) : SndS Ts cm E (tFor wi g tb) (sFor it tg b) := fun C X n ρ p hT h σ H D S Ls e0 x0 k0 =>
  (si.own hT (T.wp_bind.mp h)) σ H _ e0.inv e0.en (xok_own x0) fun J n1 H1 xs g1 i1 q it => by
  refine ⟨fun i m σ' H' => m = xs.length - i ∧ i ≤ xs.length ∧ ∃ n2 ρ2 S2 Ls2, C.R (offL H1 S) (offL H' S2) ∧ EnO C S2 Ls2 n2 H' σ' ρ2 ∧ (forGo tg b (xs.drop i) ρ2).wp (MM C) n2 (pOut p) (xn cm X), ⟨xs.length, by simp, Nat.zero_le _, n1, ρ, S, Ls, C.refl _, e0.up g1 i1, by rw [List.drop_zero]; exact q⟩, ?_⟩
  rintro i m σ' H' ⟨rfl, hi, n2, ρ2, S2, Ls2, g2, e2, p2⟩
  obtain ⟨q1, q2, q3⟩ := it H' fun b o e => (offL_some (C.sub _ _ (C.vwm g2 _ _ e))).2
  by_cases hlt : i < xs.length
  · refine .inr ⟨q1 i hlt, fun σ3 H3 => ∃ n3 ρ3 S3 Ls3, C.R (offL H1 S) (offL H3 S3) ∧ EnO C S3 Ls3 n3 H3 σ3 ρ3 ∧ (forGo tg b (xs.drop (i + 1)) ρ3).wp (MM C) n3 (pOut p) (xn cm X), fun σ3 H3 w => ⟨xs.length - (i + 1), by omega, rfl, hlt, w⟩, fun v H3 hy => ?_⟩
    have hx : xs[i]? = some xs[i] := List.getElem?_eq_getElem hlt
    obtain ⟨a, bb, c⟩ := item_in (C := ownC C S2) (q3 i _ v H3 hx hy) e2.inv (fun b o e => C.vwm g2 _ _ e)
    rw [List.drop_eq_getElem_cons hlt] at p2
    unfold forGo at p2
    split at p2
    · exact p2.elim
    · next ρ3 eg =>
      refine sg _ _ _ eg C S2 Ls2 n2 H3 v σ' _ c (e2.up a bb) fun σ4 e4 => ?_
      have g13 : C.R (offL H1 S) (offL H3 S2) := C.trans g2 a.1
      have gx := C.trans g1.1 g13
      refine sb C X n2 ρ3 ⟨fun n3 ρ4 => (forGo tg b (xs.drop (i + 1)) ρ4).wp (MM C) n3 (pOut p) (xn cm X), p.rt, p.nx, fun n3 ρ4 => (forGo tg b (xs.drop (i + 1)) ρ4).wp (MM C) n3 (pOut p) (xn cm X)⟩ hT ((T.wp_bind.mp p2).mono fun n3 o z => by cases o <;> exact z) σ4 H3 _ S2 Ls2 e4 (x0.up gx)
        ⟨fun σ5 ρ5 n5 H5 S5 Ls5 g5 e5 p5 => ⟨n5, ρ5, S5, Ls5, C.trans g13 g5, e5, p5⟩, (k0.up gx).rt, (k0.up gx).nx, fun σ5 ρ5 n5 H5 S5 Ls5 g5 e5 p5 => ⟨n5, ρ5, S5, Ls5, C.trans g13 g5, e5, p5⟩⟩
  · have e : i = xs.length := by omega
    subst e
    rw [List.drop_length] at p2
    exact .inl ⟨q2, k0.nx σ' ρ2 n2 H' S2 Ls2 (C.trans g1.1 g2) e2 p2⟩
/-! #### a new list of one's own -/
def EF (C : Ctx) (E : XK) (X : XP) (n : Nat) (ρ : Dv) (t : TE) (P : Nat → List PyData → Prop) : Prop := ∀ σ H Q, C.inv n H → En C H σ ρ → XOk C H E X →
  (∀ q vs ds n1 H', H' q = some (.lst vs) → C.R H (off H' q) → C.inv n1 (off H' q) → ¬ C.hid q → DaL (C.vw (off H' q)) vs ds → P n1 ds → Q (.ref q) H') → t σ H Q
abbrev VF := Dv → T (List PyData)
def SndF (Ts : List (Addr × Str)) (cm : Nat → Addr) (E : XK) (t : TE) (f : VF) : Prop := ∀ (C : Ctx) (X : XP) (n : Nat) (ρ : Dv) (P : Nat → List PyData → Prop), HasT Ts C → (f ρ).wp (MM C) n P (xn cm X) → EF C E X n ρ t P
theorem ef_new {C : Ctx} {H1 : Hp} {q : Addr} {vs : List V} {n : Nat} (I : C.inv n H1) (h : H1 q = none) : off (upd H1 q (.lst vs)) q = H1 ∧ ¬ C.hid q := ⟨by rw [off_upd_at, off_none h], nohid I h⟩
def fLst (a : VA) : VF := fun ρ => (a ρ).bind fun xs => match unD xs with
  | some ds => need (decide (ds.length ≤ 5000)) (.ret ds)
  | none => .stuck
@[simp] theorem fLst_c (a : VA) (o : Option DVal) (ρ : Dv) : fLst a (o :: ρ) = (a (o :: ρ)).bind fun xs => match unD xs with
  | some ds => need (decide (ds.length ≤ 5000)) (.ret ds)
  | none => .stuck := rfl
theorem snf_lst {ta : TA} {a : VA} (s : SndA Ts cm E ta a) : SndF Ts cm E (tLst ta) (fLst a) := fun C X n ρ P hT h σ H Q I e x k =>
  (s C X n ρ _ hT (T.wp_bind.mp h)) σ H _ I e x fun vs xs n1 H1 g1 i1 r1 q => by
    dsimp only at q
    split at q
    · next ds hd =>
      obtain ⟨hl, q⟩ := need_x q
      have hv := unD_da hd r1
      refine ⟨slz (hv.length ▸ of_decide_eq_true hl), fun p hp => ?_⟩
      obtain ⟨a1, a2⟩ := ef_new (vs := vs) i1 hp
      exact k p vs ds n1 _ upd_same (by rw [a1]; exact g1) (by rw [a1]; exact i1) a2 (by rw [a1]; exact hv) q
    · exact q.elim
def fListOf (a : VE) : VF := fun ρ => (a ρ).bind fun x => asQ x fun ds => .ret ds
@[simp] theorem fListOf_c (a : VE) (o : Option DVal) (ρ : Dv) : fListOf a (o :: ρ) = (a (o :: ρ)).bind fun x => asQ x fun ds => .ret ds := rfl
theorem snf_listOf {ta : TE} {a : VE} (s : Snd Ts cm E ta a) : SndF Ts cm E (tCB (fun xs H Q => ∃ p ys, xs = [.ref p] ∧ (SqL K H p ys ∨ SqT K H p ys) ∧ ∀ l, H l = none → Q (.ref l) (upd H l (.lst ys))) (tCons ta tNil)) (fListOf a) := fun C X n ρ P hT h σ H Q I e x k =>
  (s C X n ρ _ hT (T.wp_bind.mp h)) σ H _ I e x fun v y n1 H1 g1 i1 r1 q => by
    obtain ⟨ds, hs, q⟩ := asQ_x q
    obtain ⟨a, xs, rfl, ha, hx⟩ := seq_rep (K := K) hs r1
    refine ⟨a, xs, rfl, ha, fun p hp => ?_⟩
    obtain ⟨a1, a2⟩ := ef_new (vs := xs) i1 hp
    exact k p xs ds n1 _ upd_same (by rw [a1]; exact g1) (by rw [a1]; exact i1) a2 (by rw [a1]; exact hx) q
def sAsgO (i : Nat) (f : VF) : VS := fun ρ => (f ρ).bind fun ds => .ret (.nx (ρ.set i (some (.o (.l ds)))))
@[simp] theorem sAsgO_c (i : Nat) (f : VF) (o : Option DVal) (ρ : Dv) : sAsgO i f (o :: ρ) = (f (o :: ρ)).bind fun ds => .ret (.nx ((o :: ρ).set i (some (.o (.l ds))))) := rfl
theorem sns_asgO {t : TE} {f : VF} {i : Nat} (s : SndF Ts cm E t f) : SndS Ts cm E (tAsg t (gName i)) (sAsgO i f) := fun C X n ρ p hT h σ H D S Ls e x k =>
  (s (ownC C S) X n ρ _ hT.own ((T.wp_bind.mp h).imp MM.own (fun _ _ p => p) fun _ _ _ _ p => p)) σ H _ e.inv e.en (xok_own x) fun q vs ds n1 H' hq g I nh r z => by
    obtain ⟨e1, e2⟩ := e.own (i := i) g I hq (fun w => nh (.inl w)) r
    refine k.nx _ _ n1 H' _ _ ?_ e1 z
    rw [e2]
    exact g.1
/-- x.append(e) -/
def sApp (i : Nat) (f : VE) : VS := fun ρ => match ρ[i]? with
  | some (some (.o (.l ds))) => (f ρ).bind fun x => asD x fun d => need (decide (ds.length ≤ 5000)) (.ret (.nx (ρ.set i (some (.o (.l (ds ++ [d])))))))
  | _ => .stuck
@[simp] theorem sApp_c (i : Nat) (f : VE) (o : Option DVal) (ρ : Dv) : sApp i f (o :: ρ) = match (o :: ρ)[i]? with
  | some (some (.o (.l ds))) => (f (o :: ρ)).bind fun x => asD x fun d => need (decide (ds.length ≤ 5000)) (.ret (.nx ((o :: ρ).set i (some (.o (.l (ds ++ [d])))))))
  | _ => .stuck := rfl
theorem sns_app {tb : TE} {f : VE} {i : Nat} (s : Snd Ts cm E tb f) : SndS Ts cm E (tDrop (tBM K "list" rAppend (tVar i) (tCons tb tNil))) (sApp i f) := fun C X n ρ p hT h σ H D S Ls e x k => by
  unfold sApp at h
  split at h
  · next ds hd =>
    obtain ⟨v, hv, q, vs, rfl, hL, hq, hr⟩ := e.get i _ hd
    refine ⟨.ref q, hv, .inl ⟨rfl, vs, SqL.of hq⟩, ?_⟩
    refine (s.own hT (T.wp_bind.mp h)) σ H _ e.inv e.en (xok_own x) fun w y n' H' g j r z => ?_
    obtain ⟨d, ey, z⟩ := asD_x z
    subst ey
    obtain ⟨hl, z⟩ := need_x z
    have hq' : H' q = some (.lst vs) := g.2 q _ (e.sub q (getD_sub (i := i) (by rw [hL]; exact List.mem_singleton_self q))) hq
    have hr' := DaL.mono (C.vwm g.1) hr
    refine ⟨q, vs, w, rfl, rfl, hq', ?_, ?_⟩
    · rw [hr.length, sizeLine_eq]
      have := of_decide_eq_true hl
      exact Nat.lt_of_lt_of_le (show ds.length < 5001 by omega) (by decide)
    · obtain ⟨e1, e2⟩ := (e.up g j).put (vs := vs ++ [w]) (ds := ds ++ [d]) hd hL hv (dal_app hr' (.cons r .nil))
      exact k.nx _ _ n' _ S Ls (by rw [e2]; exact g.1) e1 z
  · exact h.elim
/-! #### a def -/
def fnT (k : Nat) (N : List Str) (b : VS) (xs : List DVal) : T DVal := need (decide (xs.length = k) && xs.all fun x => match x with | .o _ => false | _ => true) ((b (ρ0 N xs)).bind fun o => match o with
  | .nx _ => .ret (.d .none)
  | .rt x => .ret x
  | _ => .stuck)
@[simp] theorem fnT_c (k : Nat) (N : List Str) (b : VS) (xs : List DVal) : fnT k N b xs = need (decide (xs.length = k) && xs.all fun x => match x with | .o _ => false | _ => true) ((b (ρ0 N xs)).bind fun o => match o with
  | .nx _ => .ret (.d .none)
  | .rt x => .ret x
  | _ => .stuck) := rfl
theorem spT_len {F : VS} {k : Nat} {N : List Str} {C : Ctx} {n : Nat} {xs : List DVal} {P : Nat → DVal → Prop} {X : XP} (h : spT (Ts := Ts) (cm := cm) (fnT k N F) C n xs P X) : xs.length = k := by
  obtain ⟨h1, _⟩ := need_x h.2
  rw [Bool.and_eq_true] at h1
  exact of_decide_eq_true h1.1
theorem replicate_flat {α : Type} : ∀ k : Nat, (List.replicate k ([] : List α)).flatten = []
  | 0 => rfl
  | k + 1 => by rw [List.replicate_succ, List.flatten_cons, replicate_flat k]; rfl
theorem run1 {F : VS} {k : Nat} {N : List Str} {vs : List V} {H : Hp} {Q : VK} {t : TS} (h : spG (spT (Ts := Ts) (cm := cm) (fnT k N F)) vs H Q E) (s : SndS Ts cm E t F) : t { nx := fun _ H' => Q .non H', rt := Q } (L2.start N vs) H := by
  obtain ⟨C, n, xs, P, X, i, r, ⟨hT, h1⟩, kk, x⟩ := h
  obtain ⟨h0, h1⟩ := need_x h1
  rw [Bool.and_eq_true] at h0
  have e0 := en0 (N := N) r
  have flat0 : (List.replicate (ρ0 N xs).length ([] : List Addr)).flatten = [] := replicate_flat _
  have en : EnO C [] (List.replicate (ρ0 N xs).length []) n H (L2.start N vs) (ρ0 N xs) := by
    refine ⟨by simp, by rw [flat0]; exact List.nodup_nil, (fun a ha => by rw [flat0] at ha; cases ha), ⟨by rw [offL_nil]; exact i, (fun a ha => by cases ha)⟩, e0.len, fun j y hj => ?_⟩
    obtain ⟨v, q1, q2⟩ := e0.get j y hj
    refine ⟨v, q1, ?_⟩
    cases y with
    | d y => show Da (C.vw (offL H [])) v y; rw [offL_nil]; exact q2
    | h u => exact q2
    | o y =>
      exfalso
      have hm : DVal.o y ∈ xs := by
        have hj' := hj
        unfold ρ0 at hj'
        by_cases hlt : j < xs.length
        · rw [List.getElem?_append_left (by simpa using hlt), List.getElem?_map] at hj'
          cases q3 : xs[j]? with
          | none => rw [q3] at hj'; cases hj'
          | some z =>
            rw [q3] at hj'
            have : z = .o y := by simpa using hj'
            exact this ▸ List.mem_of_getElem? q3
        · rw [List.getElem?_append_right (by simpa using hlt), List.getElem?_replicate] at hj'
          split at hj' <;> cases hj'
      have := List.all_eq_true.mp h0.2 _ hm
      cases this
  refine s C X n (ρ0 N xs) ⟨fun n' _ => P n' (.d .none), P, fun _ _ => False, fun _ _ => False⟩ hT ((T.wp_bind.mp h1).mono fun n1 o q => by cases o <;> exact q) (L2.start N vs) H _ [] _ en (by rw [offL_nil]; exact x) ?_
  rw [offL_nil]
  refine ⟨fun σ' ρ' n' H' S' Ls' g e q => ?_, fun v x n' H' g i r q => kk v x n' H' g i r q, fun _ _ _ _ _ _ _ _ q => q.elim, fun _ _ _ _ _ _ _ _ q => q.elim⟩
  obtain ⟨a, b⟩ := full e.inv
  exact kk .non (.d .none) n' H' (C.trans g a) b .non q
end
end DC
set_option Elab.async false
set_option linter.all false
set_option maxRecDepth 100000
set_option maxHeartbeats 4000000
set_option autoImplicit false
namespace DC
open PySem L2 Gd LamX CpComb RZ PySem.ExG PySem.Spec PyProof.Rows
set_option exponentiation.threshold 10000
instance (i j : Int) : Decidable (CPow i j) := by unfold CPow; infer_instance
instance (i j : Int) : Decidable (CDivW i j) := by unfold CDivW; infer_instance
instance (i j : Int) : Decidable (CMulW i j) := by unfold CMulW; infer_instance
/-! #### a tuple once -/
theorem tuple_once (l : Addr) (items : Array Value) (n : Nat) (dd : Option Addr) (sl : Array (Option Value)) (u : Tok) :
    Meets (Builtin.«tuple.__mul__» ⟨[.ref l, .int 1 u], []⟩) (fun _ R s => s.heap.get? l = some { cls := .type "tuple", dict := dd, data := .seq items n, slots := sl } ∧ R (.ok (.ret (.ref l))) s) :=
  .of_wp fun prog w A R s h => by
    obtain ⟨hp, g, d, tk, os⟩ := s
    obtain ⟨hl, h⟩ := h
    have f1 := AutoSeq1.idx_int
    have c0 : (decide ((1 : Int) < -(2 ^ 63)) || decide ((1 : Int) ≥ 2 ^ 63)) = false := by decide
    have c1 : (items.isEmpty || (1 : Int) == 1) = true := by rw [Bool.or_eq_true]; exact .inr rfl
    wp_walk using wpAny_loadPart' hl
    repeat (first
      | (refine wpAny_ite_false (decide_eq_false (by rw [c0]; exact Bool.false_ne_true)) ?_; wp_walk using wpAny_loadPart' hl)
      | (refine wpAny_ite_true (decide_eq_true c1) ?_; wp_walk using wpAny_loadPart' hl))
    exact ⟨_, rfl, h⟩
/-- a tuple so many times, also once -/
def rRepU (K : PySem.W.Frag) : R2 := fun x y H Q => rRepT K x y H Q ∨ ∃ l xs, x = .ref l ∧ y = .int 1 ∧ SqT K H l xs ∧ Q (.ref l) H
theorem op_repU {X : Cx} {K : PySem.W.Frag} (hK : X.K = K) : OpR X (binaryOp .Mult) (rRepU K) := by
  subst hK
  intro pins s σ H x y v u Q I rx ry h
  rcases h with h | h
  · exact op_repT pins s σ H x y v u Q I rx ry h
  · obtain ⟨l, xs, rfl, rfl, hT, q⟩ := h
    cases rx
    obtain ⟨t, rfl⟩ := ry
    obtain ⟨its, r, ⟨⟨cls, dd, data, sl⟩, ho, hc, n, hd⟩, hs⟩ := I.tuple hT
    simp only at hc hd
    subst hc hd
    exact wpAny_binaryOp_repeat_ref (T := "tuple") (U := "int") (by decide) ⟨_, ho, rfl⟩ (fun s' => typeIs_int s' 1 t) noFill_tuple_mul F.fills_int_mul F.slot_int_rmul repeat_tuple F.slot_int_index.lookup
      (call_meets F.slot_int_rmul (typeIs_int s 1 t) F.entry_int_rmul (F.args_int_rmul_2 _ _) (int_rmul_tuple 1 t l its.toArray n dd sl)
        ⟨ho, rfl, ⟨_, ho, rfl⟩, call_meets F.slot_tuple_mul ⟨_, ho, rfl⟩ F.entry_tuple_mul (F.args_tuple_mul_2 _ _) (tuple_once l its.toArray n dd sl t) ⟨ho, .ref l, H, I, rfl, q⟩⟩)
section
variable {Ts : List (Addr × Str)} {cm : Nat → Addr} {E : XK} {K : PySem.W.Frag}
def vRepU (a b : VE) : VE := fun ρ => (a ρ).bind fun x => asT x fun ds => (b ρ).bind fun y => asI y fun k => need (!ds.isEmpty && decide (1 ≤ k) && decide (k ≤ 1000) && decide (ds.length ≤ 1000)) (.ret (.d (.tuple (List.replicate k.toNat ds).flatten)))
@[simp] theorem vRepU_c (a b : VE) (o : Option DVal) (ρ : Dv) : vRepU a b (o :: ρ) = (a (o :: ρ)).bind fun x => asT x fun ds => (b (o :: ρ)).bind fun y => asI y fun k => need (!ds.isEmpty && decide (1 ≤ k) && decide (k ≤ 1000) && decide (ds.length ≤ 1000)) (.ret (.d (.tuple (List.replicate k.toNat ds).flatten))) := rfl
theorem e_repU {C : Ctx} {X : XP} {n : Nat} {ρ : Dv} {P : Nat → DVal → Prop} {ta tb : TE} (h : EJ C E X n ρ ta fun n1 x => ∃ ds, x = .d (.tuple ds) ∧ EJ C E X n1 ρ tb fun n2 y => ∃ k : Int, y = .d (.int k) ∧ ds ≠ [] ∧ 1 ≤ k ∧ k ≤ 1000 ∧ ds.length ≤ 1000 ∧ P n2 (.d (.tuple (List.replicate k.toNat ds).flatten))) : EJ C E X n ρ (tOp (rRepU K) ta tb) P :=
  e_two (h.imp fun n1 x ⟨ds, e, q⟩ => by
    subst e
    refine q.imp fun n2 y ⟨k0, e, hn, h2, h3, hl, p⟩ => ?_
    subst e
    intro H2 v u Q I r1 r2 k
    obtain ⟨a, xs, rfl, ha, hx⟩ := da_tuple r1
    have b := da_int r2
    subst b
    by_cases h1 : k0 = 1
    · subst h1
      refine .inr ⟨a, xs, rfl, rfl, SqT.of (C.sub _ _ ha), k _ _ _ (C.refl _) I r1 ?_⟩
      simpa using p
    · refine .inl ⟨a, k0, xs, rfl, rfl, SqT.of (C.sub _ _ ha), fun z => hn (by subst z; cases hx; rfl), by omega, h3, by rw [hx.length]; exact hl, fun q hq => ?_⟩
      obtain ⟨a', b', c'⟩ := C.new (.tup (List.replicate k0.toNat xs).flatten) I hq
      exact k _ _ _ a' b' (Rep.tup c' (dal_rep (DaL.mono (C.vwm a') hx) _)) p)
theorem snd_repU {ta tb : TE} {a b : VE} (s1 : Snd Ts cm E ta a) (s2 : Snd Ts cm E tb b) : Snd Ts cm E (tOp (rRepU K) ta tb) (vRepU a b) := fun C X n ρ P hT h =>
  e_repU (s1.bind hT h fun n1 x q => by
    obtain ⟨i, e, q⟩ := asT_x q
    exact ⟨i, e, s2.bind hT q fun n2 y q => by
      obtain ⟨j, e, q⟩ := asI_x q
      obtain ⟨h1, h2⟩ := need_x q
      simp only [Bool.and_eq_true, decide_eq_true_eq, Bool.not_eq_true'] at h1
      obtain ⟨⟨⟨a1, a2⟩, a3⟩, a4⟩ := h1
      exact ⟨j, e, (fun z => by rw [z] at a1; cases a1), a2, a3, a4, h2⟩⟩)
/-! #### is True, is False -/
def vIsB (a b : VE) : VE := fun ρ => (a ρ).bind fun x => asB x fun i => (b ρ).bind fun y => asB y fun j => .ret (.d (.bool (decide (i = j))))
@[simp] theorem vIsB_c (a b : VE) (o : Option DVal) (ρ : Dv) : vIsB a b (o :: ρ) = (a (o :: ρ)).bind fun x => asB x fun i => (b (o :: ρ)).bind fun y => asB y fun j => .ret (.d (.bool (decide (i = j)))) := rfl
theorem snd_isBl {ta tb : TE} {a b : VE} (s1 : Snd Ts cm E ta a) (s2 : Snd Ts cm E tb b) : Snd Ts cm E (tOp rIsB ta tb) (vIsB a b) := fun C X n ρ P hT h =>
  e_two (s1.bind hT h fun n1 x q => by
    obtain ⟨i, e, q⟩ := asB_x q
    refine s2.bind hT q fun n2 y q => ?_
    obtain ⟨j, e2, q⟩ := asB_x q
    subst e e2
    intro H2 v u Q I r1 r2 k
    have a := da_bool r1
    have b := da_bool r2
    subst a b
    exact ⟨i, j, rfl, rfl, k _ _ _ (C.refl _) I (.bl _) q⟩)
/-! #### a dict of one text -/
def vDict1 (k : Str) (a : VE) : VE := fun ρ => (a ρ).nox.bind fun x => asD x fun d => .ret (.d (.dict [(.str k, d)]))
@[simp] theorem vDict1_c (k : Str) (a : VE) (o : Option DVal) (ρ : Dv) : vDict1 k a (o :: ρ) = (a (o :: ρ)).nox.bind fun x => asD x fun d => .ret (.d (.dict [(.str k, d)])) := rfl
theorem snd_dict1 {k : Str} {ta : TE} {a : VE} (s : Snd Ts cm E ta a) : Snd Ts cm E (tDisp [(tC (.str k), ta)]) (vDict1 k a) := fun C X n ρ P hT h σ H Q I e x kk => fun p hp => by
  have o0 : off (upd H p (.dK [])) p = H := by rw [off_upd_at, off_none hp]
  have ih : (hideC C p).inv n (upd H p (.dK [])) := ⟨by rw [o0]; exact I, ⟨_, upd_same, rfl⟩, nohid I hp⟩
  have en : En (hideC C p) (upd H p (.dK [])) σ ρ := en_hide (by rw [o0]; exact e)
  have w := ((T.wp_bind.mp h)).imp (X' := xn cm X) (MM.le (Le.hide C p)) (fun _ _ q => q) (fun _ _ _ _ q => q)
  refine (s (hideC C p) noX n ρ _ hT.hide (T.wp_nox w)) σ _ _ ih en (fun _ _ _ _ _ _ _ _ _ _ _ z => z.elim) fun v y n1 H1 g1 i1 r1 q => ?_
  obtain ⟨d, ey, q2⟩ := asD_x q
  clear q
  subst ey
  have hp1 : H1 p = some (.dK []) := g1.2 _ upd_same
  refine ⟨hp1, [(.inr k, v)], rfl, Nat.le_of_ble_eq_true rfl, ?_⟩
  obtain ⟨a', b', c'⟩ := C.new (.dK [(.inr k, v)]) i1.1 (off_at (H := H1) (m := p))
  rw [upd_off'] at a' b' c'
  have g2 : C.R H (off H1 p) := by
    have := g1.1
    rwa [o0] at this
  refine kk _ _ n1 _ (C.trans g2 a') b' ?_ q2
  show Da _ (.ref p) (.dict [(.str k, d)])
  exact Da.dic (kvs := [(.inr k, v)]) c' (.cons (Da.mono (C.vwm a') r1) .nil)
/-! #### sorted -/
def insU (x : Int) : List Int → List Int
  | [] => [x]
  | y :: r => if x < y then x :: y :: r else if x = y then y :: r else y :: insU x r
def sortU : List Int → List Int
  | [] => []
  | x :: r => insU x (sortU r)
theorem insU_mem (x k : Int) : ∀ l, k ∈ insU x l ↔ k = x ∨ k ∈ l
  | [] => by simp [insU]
  | y :: r => by
    unfold insU
    split
    · simp
    · split
      · next e => subst e; simp
      · simp only [List.mem_cons, insU_mem x k r]
        constructor
        · rintro (h | h | h)
          · exact .inr (.inl h)
          · exact .inl h
          · exact .inr (.inr h)
        · rintro (h | h | h)
          · exact .inr (.inl h)
          · exact .inl h
          · exact .inr (.inr h)
theorem sortU_mem (k : Int) : ∀ l, k ∈ sortU l ↔ k ∈ l
  | [] => Iff.rfl
  | x :: r => by
    show k ∈ insU x (sortU r) ↔ _
    rw [insU_mem, sortU_mem k r, List.mem_cons]
theorem insU_srt (x : Int) : ∀ {l : List Int}, l.Pairwise (· < ·) → (insU x l).Pairwise (· < ·)
  | [], _ => List.pairwise_singleton _ _
  | y :: r, h => by
    obtain ⟨h1, h2⟩ := List.pairwise_cons.mp h
    unfold insU
    split
    · next e =>
      refine List.pairwise_cons.mpr ⟨fun z hz => ?_, h⟩
      rcases List.mem_cons.mp hz with rfl | hz
      · exact e
      · exact Int.lt_trans e (h1 z hz)
    · split
      · exact h
      · refine List.pairwise_cons.mpr ⟨fun z hz => ?_, insU_srt x h2⟩
        rcases (insU_mem x z r).mp hz with rfl | hz
        · omega
        · exact h1 z hz
theorem sortU_srt : ∀ l : List Int, (sortU l).Pairwise (· < ·)
  | [] => List.Pairwise.nil
  | x :: r => insU_srt x (sortU_srt r)
theorem srtU_uniq : ∀ {l m : List Int}, l.Pairwise (· < ·) → m.Pairwise (· < ·) → (∀ k, k ∈ l ↔ k ∈ m) → l = m
  | [], [], _, _, _ => rfl
  | [], y :: s, _, _, h => absurd ((h y).mpr List.mem_cons_self) (by simp)
  | x :: r, [], _, _, h => absurd ((h x).mp List.mem_cons_self) (by simp)
  | x :: r, y :: s, hl, hm, h => by
    obtain ⟨h1, h2⟩ := List.pairwise_cons.mp hl
    obtain ⟨g1, g2⟩ := List.pairwise_cons.mp hm
    have e : x = y := by
      rcases List.mem_cons.mp ((h x).mp List.mem_cons_self) with e | hx
      · exact e
      · rcases List.mem_cons.mp ((h y).mpr List.mem_cons_self) with e | hy
        · exact e.symm
        · have := g1 x hx
          have := h1 y hy
          omega
    subst e
    rw [srtU_uniq h2 g2 fun k => ?_]
    constructor
    · intro hk
      rcases List.mem_cons.mp ((h k).mp (List.mem_cons_of_mem _ hk)) with e | hk2
      · have := h1 k hk; omega
      · exact hk2
    · intro hk
      rcases List.mem_cons.mp ((h k).mpr (List.mem_cons_of_mem _ hk)) with e | hk2
      · have := g1 k hk; omega
      · exact hk2
def vSortedSetT (a : VE) : VE := fun ρ => (a ρ).bind fun x => asT x fun ds => asIs ds fun ns => need (decide (ns.length < 64)) (.ret (.d (.list ((sortU ns).map .int))))
@[simp] theorem vSortedSetT_c (a : VE) (o : Option DVal) (ρ : Dv) : vSortedSetT a (o :: ρ) = (a (o :: ρ)).bind fun x => asT x fun ds => asIs ds fun ns => need (decide (ns.length < 64)) (.ret (.d (.list ((sortU ns).map .int)))) := rfl
theorem snd_sortedSetT {w : World} {ta : TE} {a : VE} (s : Snd Ts cm E ta a) : Snd Ts cm E (tCB (rSortedSet w) (tCons (tCB (rSetTupI K w) (tCons ta tNil)) tNil)) (vSortedSetT a) := fun C X n ρ P hT h => e_sortedSetT (s.bind hT h fun n1 x q => by
  obtain ⟨ds, e, q⟩ := asT_x q
  obtain ⟨ns, e2, q⟩ := asIs_x q
  obtain ⟨h1, q⟩ := need_x q
  refine ⟨ns, by rw [e, e2], of_decide_eq_true h1, fun ms hp hm => ?_⟩
  rw [srtU_uniq hp (sortU_srt ns) fun k => (hm k).trans (sortU_mem k ns).symm]
  exact q)
def tupsL : List PyData → Option (List (List Int))
  | [] => some []
  | .tuple ds :: r => (intsL ds).bind fun ns => (tupsL r).map (ns :: ·)
  | _ :: _ => none
theorem tupsL_eq : ∀ {ds : List PyData} {L : List (List Int)}, tupsL ds = some L → ds = L.map tD
  | [], ns, h => by cases h; rfl
  | .tuple i :: r, L, h => by
    unfold tupsL at h
    cases e : intsL i with
    | none => rw [e] at h; cases h
    | some ns =>
      cases e2 : tupsL r with
      | none => rw [e, e2] at h; cases h
      | some m =>
        rw [e, e2] at h
        cases h
        rw [tupsL_eq e2, intsL_eq e]
        rfl
@[simp] theorem tupsL_map : ∀ L : List (List Int), tupsL (L.map tD) = some L
  | [] => rfl
  | ns :: r => by
    show ((intsL (ns.map .int)).bind fun ns => (tupsL (r.map tD)).map (ns :: ·)) = _
    rw [intsL_map, tupsL_map r]
    rfl
def vSortedTL (a : VE) : VE := fun ρ => (a ρ).bind fun x => asL x fun ds => match tupsL ds with
  | some L => need (decide (L.head? = some [])) (.ret (.d (.list ((sortL L).map tD))))
  | none => .stuck
@[simp] theorem vSortedTL_c (a : VE) (o : Option DVal) (ρ : Dv) : vSortedTL a (o :: ρ) = (a (o :: ρ)).bind fun x => asL x fun ds => match tupsL ds with
  | some L => need (decide (L.head? = some [])) (.ret (.d (.list ((sortL L).map tD))))
  | none => .stuck := rfl
theorem snd_sortedTL {ta : TE} {a : VE} (s : Snd Ts cm E ta a) : Snd Ts cm E (tCB (rSortedTL K) (tCons ta tNil)) (vSortedTL a) := fun C X n ρ P hT h => e_sortedTL (s.bind hT h fun n1 x q => by
  obtain ⟨ds, e, q⟩ := asL_x q
  split at q
  · next L e2 =>
    obtain ⟨h1, q⟩ := need_x q
    exact ⟨L, by rw [e, tupsL_eq e2], of_decide_eq_true h1, q⟩
  · exact q.elim)
/-- a, x = e, [..]: x is a list of one's own -/
def sParO (i j : Nat) (a : VE) (f : VA) : VS := fun ρ => (a ρ).bind fun x => noO x ((f ρ).bind fun xs => match unD xs with
  | some ds => need (decide (ds.length ≤ 5000)) (.ret (.nx ((ρ.set i (some x)).set j (some (.o (.l ds))))))
  | none => .stuck)
@[simp] theorem sParO_c (i j : Nat) (a : VE) (f : VA) (o : Option DVal) (ρ : Dv) : sParO i j a f (o :: ρ) = (a (o :: ρ)).bind fun x => noO x ((f (o :: ρ)).bind fun xs => match unD xs with
  | some ds => need (decide (ds.length ≤ 5000)) (.ret (.nx (((o :: ρ).set i (some x)).set j (some (.o (.l ds))))))
  | none => .stuck) := rfl
theorem sns_parO {ta : TE} {tb : TA} {a : VE} {f : VA} {i j : Nat} (s1 : Snd Ts cm E ta a) (s2 : SndA Ts cm E tb f) : SndS Ts cm E (tPar i j (tCons ta (tCons (tLst tb) tNil))) (sParO i j a f) := fun C X n ρ p hT h σ H D S Ls e x k =>
  (s1.own hT (T.wp_bind.mp h)) σ H _ e.inv e.en (xok_own x) fun v y n1 H1 g1 i1 r1 q => by
    obtain ⟨hy, q⟩ := noO_x q
    refine (s2.own hT (T.wp_bind.mp q)) σ H1 _ i1 (e.en.up g1) ((xok_own x).up g1) fun vs xs n2 H2 g2 i2 r2 q => ?_
    dsimp only at q
    split at q
    · next ds hd =>
      obtain ⟨hl, q⟩ := need_x q
      have hv := unD_da hd r2
      refine ⟨slz (hv.length ▸ of_decide_eq_true hl), fun b hb => ⟨v, .ref b, rfl, ?_⟩⟩
      obtain ⟨a1, a2⟩ := ef_new (C := ownC C S) (vs := vs) i2 hb
      have ge := (ownC C S).trans g1 g2
      have e2 := (e.up ge i2).set (i := i) (r1.up g2) hy
      obtain ⟨e3, e4⟩ := e2.own (i := j) (q := b) (vs := vs) (ds := ds) (n' := n2) (H' := upd H2 b (.lst vs)) (by rw [a1]; exact (ownC C S).refl _) (by rw [a1]; exact i2) upd_same (fun w => a2 (.inl w)) (by rw [a1]; exact hv)
      refine k.nx _ _ n2 _ _ _ ?_ e3 q
      rw [e4, a1]
      exact ge.1
    · exact q.elim
theorem call_isiTK {X : Cx} (h : X.K = K) : CallR X (.builtin "isinstance") (rIsiT K) := h ▸ call_isiT
theorem cr_setTupIK {X : Cx} {w : World} (hc : X.calm = true) (h : X.K = K) (hw : X.w = w) : CallR X (.type "set") (rSetTupI K w) := by
  subst h hw
  exact cr_setTupI hc
theorem cr_sortedSetW {X : Cx} {w : World} (hc : X.calm = true) (hw : X.w = w) : CallR X (.builtin "sorted") (rSortedSet w) := by
  subst hw
  exact cr_sortedSet hc
end
end DC
set_option Elab.async false
set_option linter.all false
set_option maxRecDepth 100000
set_option maxHeartbeats 4000000
set_option autoImplicit false
namespace DC
open PySem L2 Gd LamX PySem.ExG PySem.Spec PyProof.Rows
/-! #### a dict is no tuple -/
theorem dict_no_tuple (l b : Addr) (D : Data) (items2 : Array Value) (n2 : Nat) (dd dd2 : Option Addr) (sl sl2 : Array (Option Value)) :
    Meets (Builtin.«dict.__eq__» ⟨[.ref l, .ref b], []⟩) (fun _ R s => s.heap.get? l = some { cls := .type "dict", dict := dd, data := D, slots := sl } ∧ s.heap.get? b = some { cls := .type "tuple", dict := dd2, data := .seq items2 n2, slots := sl2 } ∧ R (.ok (.ret .notImplemented)) s) :=
  .of_wp fun prog w A R s h => by
    obtain ⟨hp, g, d, tk, os⟩ := s
    obtain ⟨hl, hb, h⟩ := h
    have f1 := F.sub_tuple_dict
    wp_walk using wpAny_loadPart' hl, wpAny_loadPart' hb
    exact ⟨_, rfl, h⟩
theorem tuple_no_dict (l b : Addr) (D : Data) (items : Array Value) (n : Nat) (dd dd2 : Option Addr) (sl sl2 : Array (Option Value)) :
    Meets (Builtin.«tuple.__eq__» ⟨[.ref l, .ref b], []⟩) (fun _ R s => s.heap.get? l = some { cls := .type "tuple", dict := dd, data := .seq items n, slots := sl } ∧ s.heap.get? b = some { cls := .type "dict", dict := dd2, data := D, slots := sl2 } ∧ R (.ok (.ret .notImplemented)) s) :=
  .of_wp fun prog w A R s h => by
    obtain ⟨hp, g, d, tk, os⟩ := s
    obtain ⟨hl, hb, h⟩ := h
    have f1 := F.sub_dict_tuple
    wp_walk using wpAny_loadPart' hl, wpAny_loadPart' hb
    exact ⟨_, rfl, h⟩
/-- ==, one of them a dict of texts, the other a tuple -/
def rEqM (K : PySem.W.Frag) : R2 := fun x y H Q => rEqD K x y H Q ∨ ∃ a b kvs ys, x = .ref a ∧ y = .ref b ∧ H a = some (.dK kvs) ∧ SqT K H b ys ∧ Q (.bl false) H
theorem op_eqM {X : Cx} {K : PySem.W.Frag} (hK : X.K = K) (hu : X.A.units + 64 < cLine) : OpR X (compareOp .Eq) (rEqM K) := by
  subst hK
  intro pins s σ H x y v u Q I rx ry h
  rcases h with h | h
  · exact op_eqD hu pins s σ H x y v u Q I rx ry h
  · obtain ⟨a, b, kvs, ys, rfl, rfl, ha, hb, q⟩ := h
    cases rx
    cases ry
    obtain ⟨its, r, ⟨⟨cls, dd, data, sl⟩, ho, hc, n, hd⟩, hs⟩ := I.tuple hb
    simp only at hc hd
    subst hc hd
    obtain ⟨hz, hm, vs, hv, hdic⟩ := I.hok a _ ha
    have hty := hdic.typeIs
    obtain ⟨⟨cls2, dd2, data2, sl2⟩, ho2, hc2⟩ := hty
    simp only at hc2
    subst hc2
    have hne : a ≠ b := fun e => by
      subst e
      rw [ho] at ho2
      exact absurd (congrArg Obj.cls (Option.some.inj ho2)) (by simp)
    exact (SeqAt.rc_eq_decline_or (k := false) ⟨_, ho2, rfl⟩ ⟨_, ho, rfl⟩ (by decide) F.sub_tuple_dict F.slot_dict_eq F.slot_tuple_eq_refl
      (fun _ z => call_meets F.slot_dict_eq ⟨_, ho2, rfl⟩ F.entry_dict_eq (F.args_dict_eq_2 _ _) (dict_no_tuple a b data2 its.toArray n dd2 dd sl2 sl) ⟨ho2, ho, z⟩)
      (fun _ z => call_meets F.slot_tuple_eq_refl ⟨_, ho, rfl⟩ F.entry_tuple_eq (F.args_tuple_eq_2 _ _) (tuple_no_dict b a data2 its.toArray n dd dd2 sl sl2) ⟨ho, ho2, z⟩)
      (fun _ z => PySem.wpAny_isSame_ref_other hne ho2 ho (by simp) z) (.inr (by omega)) ⟨.bl false, H, I, rfl, q⟩)
section
variable {Ts : List (Addr × Str)} {cm : Nat → Addr} {E : XK} {K : PySem.W.Frag}
@[simp] def eqM (d e : PyData) : Option Bool := match d, e with
  | .dict _, .tuple _ => some false
  | _, _ => if (Gd.plain d && Gd.plain e) = true then some (PyData.eqv d e) else none
def vEqM (a b : VE) : VE := fun ρ => (a ρ).bind fun x => (b ρ).bind fun y => asD x fun d => asD y fun e => match eqM d e with
  | some z => .ret (.d (.bool z))
  | none => .stuck
@[simp] theorem vEqM_c (a b : VE) (o : Option DVal) (ρ : Dv) : vEqM a b (o :: ρ) = (a (o :: ρ)).bind fun x => (b (o :: ρ)).bind fun y => asD x fun d => asD y fun e => match eqM d e with
  | some z => .ret (.d (.bool z))
  | none => .stuck := rfl
theorem snd_eqM {ta tb : TE} {a b : VE} (s1 : Snd Ts cm E ta a) (s2 : Snd Ts cm E tb b) : Snd Ts cm E (tOp (rEqM K) ta tb) (vEqM a b) := fun C X n ρ P hT h => e_two (s1.bind hT h fun n1 x q => s2.bind hT q fun n2 y q => by
  obtain ⟨d, e1, q2⟩ := asD_x q
  obtain ⟨e, e2, q3⟩ := asD_x q2
  clear q q2
  subst e1 e2
  intro H2 v u Q I r1 r2 k
  have r1' : Da (C.vw H2) v d := r1
  have r2' : Da (C.vw H2) u e := r2
  split at q3
  · next z hz =>
    unfold eqM at hz
    split at hz
    · next kvs es =>
      cases hz
      obtain ⟨b, ys, rfl, hb, hy⟩ := da_tuple r2'
      cases r1' with
      | dic ha _ => exact .inr ⟨_, b, _, ys, rfl, rfl, C.sub _ _ ha, SqT.of (C.sub _ _ hb), k _ _ _ (C.refl _) I (.bl _) q3⟩
    · split at hz
      · next hp =>
        cases hz
        unfold Gd.plain at hp
        simp only [Bool.and_eq_true] at hp
        exact .inl ⟨d, e, da_dp2 (Da.mono (C.sub (H := H2)) r1') hp.1.1, da_dp2 (Da.mono (C.sub (H := H2)) r2') hp.2.1, hp.1.2, hp.2.2, k _ _ _ (C.refl _) I (.bl _) q3⟩
      · cases hz
  · exact q3.elim)
end
end DC
set_option Elab.async false
set_option linter.all false
set_option maxRecDepth 100000
set_option maxHeartbeats 4000000
namespace DC
open PySem L2 Gd LamX PySem.ExG
/-! ### defs that make lambdas, or ask for repr -/
structure AtC (K : PySem.W.Frag) (mg : Str → Option Value) (x : Str) (st : Stmt) (ps : List Str) (c : Addr) : Prop where
  ex : ∃ (f : Addr) (oc kV doc pm ct : Value) (od an : Option Addr) (osl : Array (Option Value)),
    K.lookup f = some ⟨oc, od, .func (PySem.W.fnOf x x (defArgs st) (defBody st) (defScope st) .none kV doc pm an (.ref c) ct), osl⟩ ∧ PySem.W.codeIn K (.ref c) x = true ∧
    mg x = some (.ref f) ∧ PySem.W.keepIn K (.ref f) = true ∧ Binds K (PySem.W.fnOf x x (defArgs st) (defBody st) (defScope st) .none kV doc pm an (.ref c) ct) ps []
structure FdG (P : Program) (w : World) (K : PySem.W.Frag) (mg : Str → Option Value) (base : Heap) (x : Str) (ps : List Str) (cx : CXT) (k : Nat) (s : SpD) : Prop where
  ex : ∃ (f : Addr) (fd : FuncData), mg x = some (.ref f) ∧ PySem.W.keepIn K (.ref f) = true ∧ Binds K fd ps [] ∧ FnG P w K mg base cx k f fd ps (spG s)
def lamQ (x : Str) : Str := x ++ ".<locals>." ++ "<lambda>"
theorem takes_len {X : Cx} {W : WX} (tk : Takes X W) : Takes X fun cls d σ H => σ.length = X.N.length → W cls d σ H := by
  intro u s1 xx
  obtain ⟨a, B, sI, pins, τ, G, k, dd, e, J, nb, up, sky, na, os, ag, wish⟩ := xx
  exact tk u s1 ⟨a, B, sI, pins, τ, G, k, dd, e, J, nb, up, sky, na, os, ag, wish J.len⟩
theorem three {α : Type} {σ : List α} (h : σ.length = 3) : ∃ a b c, σ = [a, b, c] := by
  match σ, h with
  | [a, b, c], _ => exact ⟨a, b, c, rfl⟩
/-- what a def makes of an exception: the name that goes with it, and its field -/
def ts_c (C : Addr) (f tag : Str) : Addr → Value → Option Addr → TS := fun a cls d => tAsg (tTup (tCons (tC (.str tag)) (tCons (tByEx C f a cls d (tVar 2)) tNil))) (gName 1)
theorem pi_enSK {X : Cx} {K : PySem.W.Frag} {e : Expr} {ta : TA} {p pos tpos : Pos} {elts : List Expr} {kk : Nat} (h : X.K = K) (hg : Gl X "enumerate") (hm : X.mg "enumerate" = none) (ha : PA X [e] ta)
    (hs : starEach [e] X.env = [(false, eval e X.env)] := by rfl) :
    PI X (.Tuple elts kk tpos) (.Call (.Name "enumerate" p) [e] [] pos) (iEnS K ta) := h ▸ pi_enS hg hm ha hs
/-- a draw -/
def F_law_draw : List DVal → T DVal := fun xs => match xs with
  | [.h m, .d (.int many)] => .draw m many fun r => .ret (.d (.int r))
  | _ => .stuck
end DC
set_option Elab.async false
set_option linter.all false
set_option maxRecDepth 100000
set_option maxHeartbeats 4000000
set_option autoImplicit false
namespace DC
open PySem L2 Gd LamX PySem.ExG CpComb
/-! ### plain lemmas: loops and comprehensions -/
@[simp] theorem forGo_nil (tg : VG) (b : VS) (ρ : Dv) : forGo tg b [] ρ = .ret (.nx ρ) := rfl
@[simp] theorem forGo_cons (tg : VG) (b : VS) (x : PyData) (xs : List PyData) (ρ : Dv) : forGo tg b (x :: xs) ρ = match tg x ρ with
    | none => .stuck
    | some ρ1 => (b ρ1).bind fun o => match o with
      | .nx ρ2 => forGo tg b xs ρ2
      | .ct ρ2 => forGo tg b xs ρ2
      | .bk ρ2 => .ret (.nx ρ2)
      | .rt x => .ret (.rt x) := rfl
@[simp] theorem lcGo_nil (tg : VG) (vs : List Nat) (tt : VT) (te : VE) (ρ : Dv) : lcGo tg vs tt te ρ [] = .ret [] := rfl
@[simp] theorem lcGo_cons (tg : VG) (vs : List Nat) (tt : VT) (te : VE) (ρ : Dv) (x : PyData) (xs : List PyData) : lcGo tg vs tt te ρ (x :: xs) = match tg x (wipeD ρ vs) with
    | none => .stuck
    | some ρ' => (tt ρ').bind fun b => if b = true then (te ρ').bind fun y => asD y fun d => (lcGo tg vs tt te ρ xs).bind fun ds => .ret (d :: ds) else lcGo tg vs tt te ρ xs := rfl
theorem boolsL_of {α : Type} (f : α → Bool) (as : List α) : boolsL (as.map fun a => .bool (f a)) = some (as.map f) := by
  rw [show (as.map fun a => PyData.bool (f a)) = (as.map f).map .bool from by rw [List.map_map]; rfl, boolsL_map]
theorem asBs_of {α β : Type} (f : α → Bool) (as : List α) (k : List Bool → T β) : asBs (as.map fun a => .bool (f a)) k = k (as.map f) := by
  unfold asBs; rw [boolsL_of]
theorem intsL_of {α : Type} (f : α → Int) (as : List α) : intsL (as.map fun a => .int (f a)) = some (as.map f) := by
  rw [show (as.map fun a => PyData.int (f a)) = (as.map f).map .int from by rw [List.map_map]; rfl, intsL_map]
theorem asIs_of {α β : Type} (f : α → Int) (as : List α) (k : List Int → T β) : asIs (as.map fun a => .int (f a)) k = k (as.map f) := by
  unfold asIs; rw [intsL_of]
theorem lcGo_pure {α : Type} {tg : VG} {vs : List Nat} {tt : VT} {te : VE} {ρ : Dv} (emb : α → PyData) (c : α → Bool) (f : α → PyData) : ∀ (as : List α),
    (∀ a ∈ as, ∃ ρ', tg (emb a) (wipeD ρ vs) = some ρ' ∧ tt ρ' = .ret (c a) ∧ (c a = true → te ρ' = .ret (.d (f a)))) → lcGo tg vs tt te ρ (as.map emb) = .ret ((as.filter c).map f)
  | [], _ => rfl
  | a :: as, h => by
    obtain ⟨ρ', h1, h2, h3⟩ := h a List.mem_cons_self
    have ih := lcGo_pure emb c f as fun b hb => h b (List.mem_cons_of_mem _ hb)
    rw [List.map_cons, lcGo_cons, h1]
    simp only [h2, T.bind_ret]
    by_cases hc : c a = true
    · rw [if_pos hc, h3 hc, T.bind_ret, asD_0, ih, T.bind_ret, List.filter_cons_of_pos hc, List.map_cons]
    · rw [if_neg hc, ih, List.filter_cons_of_neg hc]
theorem vLc_pure {α : Type} {it : VI} {tg : VG} {vs : List Nat} {tt : VT} {te : VE} {ρ : Dv} (emb : α → PyData) (c : α → Bool) (f : α → PyData) (as : List α) (h0 : it ρ = .ret (as.map emb)) (hl : as.length ≤ 5000)
    (h : ∀ a ∈ as, ∃ ρ', tg (emb a) (wipeD ρ vs) = some ρ' ∧ tt ρ' = .ret (c a) ∧ (c a = true → te ρ' = .ret (.d (f a)))) : vLc it tg tt te vs ρ = .ret (.d (.list ((as.filter c).map f))) := by
  unfold vLc
  rw [h0, T.bind_ret, List.length_map, decide_eq_true hl, lcGo_pure emb c f as h]
  rfl
theorem vLc_map {α : Type} {it : VI} {tg : VG} {vs : List Nat} {te : VE} {ρ : Dv} (emb : α → PyData) (f : α → PyData) (as : List α) (h0 : it ρ = .ret (as.map emb)) (hl : as.length ≤ 5000)
    (h : ∀ a ∈ as, ∃ ρ', tg (emb a) (wipeD ρ vs) = some ρ' ∧ te ρ' = .ret (.d (f a))) : vLc it tg tY te vs ρ = .ret (.d (.list (as.map f))) := by
  rw [vLc_pure emb (fun _ => true) f as h0 hl fun a ha => ?_, List.filter_eq_self.mpr (fun _ _ => rfl)]
  obtain ⟨ρ', h1, h2⟩ := h a ha
  exact ⟨ρ', h1, rfl, fun _ => h2⟩
theorem lc2In_pure {β : Type} {tg1 : VG} {vs1 : List Nat} {tt1 : VT} {te : VE} {ρ' : Dv} (emb : β → PyData) (c : β → Bool) (f : β → PyData) : ∀ (bs : List β),
    (∀ b ∈ bs, ∃ ρ'', tg1 (emb b) (wipeD ρ' vs1) = some ρ'' ∧ tt1 ρ'' = .ret (c b) ∧ (c b = true → te ρ'' = .ret (.d (f b)))) → lc2In tg1 vs1 tt1 te ρ' (bs.map emb) = .ret ((bs.filter c).map f)
  | [], _ => rfl
  | b :: bs, h => by
    obtain ⟨ρ'', h1, h2, h3⟩ := h b List.mem_cons_self
    have ih := lc2In_pure emb c f bs fun b hb => h b (List.mem_cons_of_mem _ hb)
    rw [List.map_cons, lc2In, h1]
    simp only [h2, T.bind_ret]
    by_cases hc : c b = true
    · rw [if_pos hc, h3 hc, T.bind_ret, asD_0, ih, T.bind_ret, List.filter_cons_of_pos hc, List.map_cons]
    · rw [if_neg hc, ih, List.filter_cons_of_neg hc]
theorem lc2Go_pure {α β : Type} {tg tg1 : VG} {vs vs1 : List Nat} {tt tt1 : VT} {it1 : VI} {te : VE} {ρ : Dv} (emb : α → PyData) (c : α → Bool) (bs : α → List β) (emb1 : α → β → PyData) (c1 : α → β → Bool) (f : α → β → PyData) : ∀ (as : List α) (k : Nat),
    k + (as.map fun a => (bs a).length).sum ≤ 4999 →
    (∀ a ∈ as, ∃ ρ', tg (emb a) (wipeD ρ vs) = some ρ' ∧ tt ρ' = .ret (c a) ∧ (c a = true → it1 ρ' = .ret ((bs a).map (emb1 a)) ∧
      ∀ b ∈ bs a, ∃ ρ'', tg1 (emb1 a b) (wipeD ρ' vs1) = some ρ'' ∧ tt1 ρ'' = .ret (c1 a b) ∧ (c1 a b = true → te ρ'' = .ret (.d (f a b))))) →
    lc2Go tg vs tt it1 tg1 vs1 tt1 te ρ (as.map emb) k = .ret ((as.filter c).flatMap fun a => ((bs a).filter (c1 a)).map (f a))
  | [], _, _, _ => rfl
  | a :: as, k, hk, h => by
    obtain ⟨ρ', h1, h2, h3⟩ := h a List.mem_cons_self
    rw [List.map_cons, List.sum_cons] at hk
    rw [List.map_cons, lc2Go, h1]
    simp only [h2, T.bind_ret]
    by_cases hc : c a = true
    · obtain ⟨h4, h5⟩ := h3 hc
      have ih := lc2Go_pure emb c bs emb1 c1 f as (k + (bs a).length) (by omega) fun b hb => h b (List.mem_cons_of_mem _ hb)
      rw [if_pos hc, h4, T.bind_ret, List.length_map, decide_eq_true (show k + (bs a).length ≤ 4999 by omega), lc2In_pure (emb1 a) (c1 a) (f a) (bs a) h5, need_t, T.bind_ret, ih, T.bind_ret, List.filter_cons_of_pos hc, List.flatMap_cons]
    · have ih := lc2Go_pure emb c bs emb1 c1 f as k (by omega) fun b hb => h b (List.mem_cons_of_mem _ hb)
      rw [if_neg hc, ih, List.filter_cons_of_neg hc]
theorem vLc2_pure {α β : Type} {it it1 : VI} {tg tg1 : VG} {vs vs1 : List Nat} {tt tt1 : VT} {te : VE} {ρ : Dv} (emb : α → PyData) (c : α → Bool) (bs : α → List β) (emb1 : α → β → PyData) (c1 : α → β → Bool) (f : α → β → PyData) (as : List α)
    (h0 : it ρ = .ret (as.map emb)) (hk : (as.map fun a => (bs a).length).sum ≤ 4999)
    (h : ∀ a ∈ as, ∃ ρ', tg (emb a) (wipeD ρ vs) = some ρ' ∧ tt ρ' = .ret (c a) ∧ (c a = true → it1 ρ' = .ret ((bs a).map (emb1 a)) ∧
      ∀ b ∈ bs a, ∃ ρ'', tg1 (emb1 a b) (wipeD ρ' vs1) = some ρ'' ∧ tt1 ρ'' = .ret (c1 a b) ∧ (c1 a b = true → te ρ'' = .ret (.d (f a b))))) :
    vLc2 it tg tt it1 tg1 tt1 te vs vs1 ρ = .ret (.d (.list ((as.filter c).flatMap fun a => ((bs a).filter (c1 a)).map (f a)))) := by
  unfold vLc2
  rw [h0, T.bind_ret, lc2Go_pure emb c bs emb1 c1 f as 0 (by omega) h]
  rfl
theorem wp_noxI {α : Type} {M : V → Prop} {X : XN} : ∀ {t : T α} {n : Nat} {P : Nat → α → Prop}, t.wp M n P (fun _ _ _ _ => False) → t.nox.wp M n P X
  | .ret _, _, _, h => h
  | .exc _ _ _, _, _, h => h.elim
  | .draw m many k, n, P, h => by
    obtain ⟨a, b, c, d, h⟩ := h
    exact ⟨a, b, c, d, fun r r0 r1 => wp_noxI (h r r0 r1)⟩
  | .stuck, _, _, h => h.elim
theorem wp_forGo {M : V → Prop} {X : XN} {tg : VG} {b : VS} {P : Nat → Out → Prop} (xs : List PyData) (I : Nat → Nat → Dv → Prop)
    (hs : ∀ i x n ρ, xs[i]? = some x → I i n ρ → ∃ ρ1, tg x ρ = some ρ1 ∧ (b ρ1).wp M n (fun n' o => match o with
      | .nx ρ2 => I (i + 1) n' ρ2
      | .ct ρ2 => I (i + 1) n' ρ2
      | .bk ρ2 => P n' (.nx ρ2)
      | .rt x => P n' (.rt x)) X) (hd : ∀ n ρ, I xs.length n ρ → P n (.nx ρ)) {n : Nat} {ρ : Dv} (h0 : I 0 n ρ) : (forGo tg b xs ρ).wp M n P X := by
  have key : ∀ (ys : List PyData) (i n : Nat) (ρ : Dv), xs.drop i = ys → i ≤ xs.length → I i n ρ → (forGo tg b ys ρ).wp M n P X := by
    intro ys
    induction ys with
    | nil =>
      intro i n ρ e hi h
      have : i = xs.length := by
        have := congrArg List.length e
        rw [List.length_drop] at this
        simp at this
        omega
      subst this
      exact hd n ρ h
    | cons y ys ih =>
      intro i n ρ e hi h
      have hlt : i < xs.length := by
        have := congrArg List.length e
        rw [List.length_drop] at this
        simp at this
        omega
      rw [List.drop_eq_getElem_cons hlt] at e
      obtain ⟨e1, e2⟩ := List.cons.inj e
      obtain ⟨ρ1, q1, q2⟩ := hs i y n ρ (by rw [List.getElem?_eq_getElem hlt, e1]) h
      rw [forGo_cons, q1]
      refine T.wp_bind.mpr (q2.mono fun n' o q => ?_)
      cases o with
      | nx ρ2 => exact ih (i + 1) n' ρ2 e2 hlt q
      | ct ρ2 => exact ih (i + 1) n' ρ2 e2 hlt q
      | bk ρ2 => exact q
      | rt x => exact q
  exact key xs 0 n ρ rfl (Nat.zero_le _) h0
theorem wp_lcGo {M : V → Prop} {X : XN} {tg : VG} {vs : List Nat} {tt : VT} {te : VE} {ρ : Dv} {P : Nat → List PyData → Prop} (xs : List PyData) (I : Nat → Nat → List PyData → Prop)
    (hs : ∀ i x n acc, xs[i]? = some x → I i n acc → ∃ ρ', tg x (wipeD ρ vs) = some ρ' ∧ (tt ρ').wp M n (fun n1 b => if b = true then (te ρ').wp M n1 (fun n2 y => ∃ d, y = .d d ∧ I (i + 1) n2 (acc ++ [d])) X else I (i + 1) n1 acc) X)
    (hd : ∀ n acc, I xs.length n acc → P n acc) {n : Nat} (h0 : I 0 n []) : (lcGo tg vs tt te ρ xs).wp M n P X := by
  have key : ∀ (ys : List PyData) (i n : Nat) (acc : List PyData) (P' : Nat → List PyData → Prop), (∀ n ds, P n (acc ++ ds) → P' n ds) → xs.drop i = ys → i ≤ xs.length → I i n acc → (lcGo tg vs tt te ρ ys).wp M n P' X := by
    intro ys
    induction ys with
    | nil =>
      intro i n acc P' hP e hi h
      have : i = xs.length := by
        have := congrArg List.length e
        rw [List.length_drop] at this
        simp at this
        omega
      subst this
      exact hP n [] (by rw [List.append_nil]; exact hd n acc h)
    | cons y ys ih =>
      intro i n acc P' hP e hi h
      have hlt : i < xs.length := by
        have := congrArg List.length e
        rw [List.length_drop] at this
        simp at this
        omega
      rw [List.drop_eq_getElem_cons hlt] at e
      obtain ⟨e1, e2⟩ := List.cons.inj e
      obtain ⟨ρ', q1, q2⟩ := hs i y n acc (by rw [List.getElem?_eq_getElem hlt, e1]) h
      rw [lcGo_cons, q1]
      refine T.wp_bind.mpr (q2.mono fun n' b q => ?_)
      by_cases hb : b = true
      · rw [if_pos hb] at q ⊢
        refine T.wp_bind.mpr (q.mono fun n2 y ⟨d, ey, q⟩ => ?_)
        subst ey
        exact T.wp_bind.mpr (ih (i + 1) n2 (acc ++ [d]) _ (fun n ds w => hP n (d :: ds) (by rw [List.append_assoc] at w; exact w)) e2 hlt q)
      · rw [if_neg hb] at q ⊢
        exact ih (i + 1) n' acc P' hP e2 hlt q
  exact key xs 0 n [] P (fun _ _ w => w) rfl (Nat.zero_le _) h0
end DC
set_option Elab.async false
set_option linter.all false
set_option maxRecDepth 100000
set_option maxHeartbeats 4000000
set_option autoImplicit false
namespace DC
open PySem L2 Gd LamX PySem.ExG CpComb
/-! ### the def `law` -/
theorem mok_noT {H : Hp} {m c : Addr} {n : Nat} (M : MOk H m c n) : MOk (noT H) m c n := by
  obtain ⟨l, sd, sp, cs, e1, e2, r⟩ := M.ex
  exact ⟨l, sd, sp, cs, noT_of e1 (by intro _ z; cases z), noT_of e2 (by intro _ z; cases z), r⟩
theorem sql_noT {K : PySem.W.Frag} {H H' : Hp} {a : Addr} {xs : List V} (h : SqL K H a xs) (s : Same (noT H) (noT H')) : SqL K H' a xs := by
  rcases h with (h | ⟨o, h⟩) | h
  · exact .inl (.inl (noT_some (s _ _ (noT_of h (by intro ps z; cases z)))).1)
  · exact .inl (.inr ⟨o, (noT_some (s _ _ (noT_of h (by intro ps z; cases z)))).1⟩)
  · exact .inr h
/-- where the script lies, and the tables -/
structure LI (K : PySem.W.Frag) (Ts : List (Addr × Str)) (L : Nat) (a : Addr) (ns : List Int) (σ : L2.St) (H : Hp) : Prop where
  len : σ.length = L
  at0 : σ[0]? = some (some (.ref a))
  seq : SqL K H a (ns.map V.int)
  tb : Tabs Ts H
def LawP (K : PySem.W.Frag) (Ts : List (Addr × Str)) (L : Nat) (t : TS) : Prop := ∀ (a : Addr) (ns : List Int) (σ : L2.St) (H : Hp) (D : Ends), ns.length ≤ 63 → LI K Ts L a ns σ H → (∀ σ' H', LI K Ts L a ns σ' H' → D.nx σ' H') → t D σ H
def LawE (K : PySem.W.Frag) (Ts : List (Addr × Str)) (L : Nat) (t : TS) : Prop := ∀ (a : Addr) (ns : List Int) (σ : L2.St) (H : Hp) (D : Ends), ns.length ≤ 63 → LI K Ts L a ns σ H → (∀ H', D.rt (.bl true) H') → t D σ H
section
variable {K : PySem.W.Frag} {Ts : List (Addr × Str)} {L : Nat} {cm : Nat → Addr} {E : XK}
theorem law_seq {t u : TS} (h1 : LawP K Ts L t) (h2 : LawP K Ts L u) : LawP K Ts L (tSeq t u) := fun a ns σ H D hl i k => h1 a ns σ H _ hl i fun σ' H' i' => h2 a ns σ' H' D hl i' k
theorem law_seqE {t u : TS} (h1 : LawP K Ts L t) (h2 : LawE K Ts L u) : LawE K Ts L (tSeq t u) := fun a ns σ H D hl i k => h1 a ns σ H _ hl i fun σ' H' i' => h2 a ns σ' H' D hl i' k
theorem law_assocE {t u v : TS} (h : LawE K Ts L (tSeq (tSeq t u) v)) : LawE K Ts L (tSeq t (tSeq u v)) := h
def ρL (L : Nat) (a : Addr) : Dv := some (.h (.ref a)) :: List.replicate (L - 1) none
def PreOk (L : Nat) (f : VS) : Prop := ∀ a, (f (ρL L a)).wp (fun _ => False) 0 (fun _ o => ∃ ρ', o = .nx ρ' ∧ ρ'.length = L ∧ ρ'[0]? = some (some (.h (.ref a)))) (fun _ _ _ _ => False)
def PostOk (L : Nat) (f : VS) : Prop := ∀ a, (f (ρL L a)).wp (fun _ => False) 0 (fun _ o => o = .rt (.d (.bool true))) (fun _ _ _ _ => False)
/-- j: where the draws' state is told -/
def BodyOk (L j : Nat) (f : VS) : Prop := ∀ a m, (f ((ρL L a).set j (some (.h m)))).wp (fun v => v = m) 0 (fun _ o => ∃ ρ', (o = .nx ρ' ∨ o = .ct ρ') ∧ ρ'.length = L ∧ ρ'[0]? = some (some (.h (.ref a)))) (fun _ _ _ _ => False)
theorem ρL_len {L : Nat} {a : Addr} (h : 0 < L) : (ρL L a).length = L := by
  unfold ρL; rw [List.length_cons, List.length_replicate]; omega
theorem enO_law {C : Ctx} {n : Nat} {H : Hp} {σ : L2.St} {a : Addr} (h0 : 0 < L) (hl : σ.length = L) (h1 : σ[0]? = some (some (.ref a))) (i : C.inv n H) : EnO C [] (List.replicate L []) n H σ (ρL L a) := by
  have flat0 : (List.replicate L ([] : List Addr)).flatten = [] := replicate_flat _
  refine ⟨by rw [List.length_replicate, ρL_len h0], by rw [flat0]; exact List.nodup_nil, (fun a ha => by rw [flat0] at ha; cases ha), ⟨by rw [offL_nil]; exact i, (fun a ha => by cases ha)⟩, by rw [hl, ρL_len h0], fun j y hj => ?_⟩
  cases j with
  | zero =>
    have : y = .h (.ref a) := by
      have := Option.some.inj (Option.some.inj hj)
      exact this.symm
    subst this
    exact ⟨_, h1, rfl⟩
  | succ j =>
    unfold ρL at hj
    rw [List.getElem?_cons_succ, List.getElem?_replicate] at hj
    split at hj <;> cases hj
theorem at0_of {C : Ctx} {S : List Addr} {Ls : List (List Addr)} {n : Nat} {H : Hp} {σ : L2.St} {ρ : Dv} {a : Addr} (e : EnO C S Ls n H σ ρ) (h : ρ[0]? = some (some (.h (.ref a)))) : σ[0]? = some (some (.ref a)) := by
  obtain ⟨v, h1, h2⟩ := e.get 0 _ h
  have h3 : v = .ref a := h2
  rw [h1, h3]
theorem law_plain {t : TS} {f : VS} (h0 : 0 < L) (s : SndS Ts cm E t f) (h : PreOk L f) : LawP K Ts L t := fun a ns σ H D hl i k => by
  refine s (tabC Ts pureC) noX 0 (ρL L a) ⟨fun _ ρ' => ρ'.length = L ∧ ρ'[0]? = some (some (.h (.ref a))), fun _ _ => False, fun _ _ => False, fun _ _ => False⟩ (hasT_tab Ts _)
    ((h a).imp (fun _ z => z.elim) (fun n o => ?_) fun _ _ _ _ z => z.elim) σ H D [] _ (enO_law h0 i.len i.at0 ⟨trivial, i.tb⟩) (fun _ _ _ _ _ _ _ _ _ _ _ z => z.elim) ?_
  · rintro ⟨ρ', rfl, q⟩
    exact q
  · rw [offL_nil]
    refine ⟨fun σ' ρ' n' H' S' Ls' g e q => ?_, fun _ _ _ _ _ _ _ z => z.elim, fun _ _ _ _ _ _ _ _ z => z.elim, fun _ _ _ _ _ _ _ _ z => z.elim⟩
    obtain ⟨g2, j⟩ := full e.inv
    have s1 : Same (noT H) (noT H') := (tabC Ts pureC).trans g g2
    exact k σ' H' ⟨by rw [e.len]; exact q.1, at0_of e q.2, sql_noT i.seq s1, j.2⟩
theorem law_end {t : TS} {f : VS} (h0 : 0 < L) (s : SndS Ts cm E t f) (h : PostOk L f) : LawE K Ts L t := fun a ns σ H D hl i k => by
  refine s (tabC Ts pureC) noX 0 (ρL L a) ⟨fun _ _ => False, fun _ x => x = .d (.bool true), fun _ _ => False, fun _ _ => False⟩ (hasT_tab Ts _)
    ((h a).imp (fun _ z => z.elim) (fun n o => ?_) fun _ _ _ _ z => z.elim) σ H D [] _ (enO_law h0 i.len i.at0 ⟨trivial, i.tb⟩) (fun _ _ _ _ _ _ _ _ _ _ _ z => z.elim) ?_
  · rintro rfl
    exact rfl
  · rw [offL_nil]
    refine ⟨fun _ _ _ _ _ _ _ _ z => z.elim, fun v x n' H' g j r q => ?_, fun _ _ _ _ _ _ _ _ z => z.elim, fun _ _ _ _ _ _ _ _ z => z.elim⟩
    subst q
    have := da_bool r
    subst this
    exact k H'
/-- _law_begun(script, k) -/
def spBegunL (K : PySem.W.Frag) : Sp := fun vs H Q _ => ∃ (a : Addr) (ns : List Int) (k : Int), vs = [.ref a, .int k] ∧ SqL K H a (ns.map V.int) ∧ ns.length ≤ 63 ∧ 0 ≤ k ∧ k ≤ 100 ∧
  ∀ (m c : Addr) (H' : Hp), H m = none → MOk H' m c 0 → Same H H' → Q (.ref m) H'
theorem set_keep {α : Type} {σ : List α} {j : Nat} {x : α} (hj : 0 < j) : (σ.set j x)[0]? = σ[0]? := List.getElem?_set_ne (by omega)
theorem law_for {B N : Int} {j : Nat} {E' : XK} {tb : TS} {b : VS} (hB : 0 ≤ B ∧ B ≤ 30) (hN : 0 ≤ N ∧ N ≤ 63) (hL : 1 < L) (hj : 0 < j ∧ j < L) (s : SndS Ts cm E tb b) (h : BodyOk L j b) :
    LawP K Ts L (tFor (iRng1 (tCons (tOp (rI0 fun i j => .int (i + j)) (tC (.int B)) (tCB (fun xs H Q => ∃ i j, xs = [.int i, .int j] ∧ Q (.int (if j < i then j else i)) H) (tCons (tCB (fun xs H Q => ∃ p ys, xs = [.ref p] ∧ (SqL K H p ys ∨ SqT K H p ys) ∧ Q (.int ys.length) H) (tCons (tVar 0) tNil)) (tCons (tC (.int N)) tNil)))) tNil)) (gName 1)
      (tSeq (tAsg (tCall (spBegunL K) [] E' (tCons (tVar 0) (tCons (tVar 1) tNil))) (gName j)) tb)) := fun a ns σ H D hl i k => by
  refine ⟨_, i.at0, a, _, rfl, .inl i.seq, _, _, rfl, _, _, rfl, rfl, ?_⟩
  have lm : (ns.map V.int).length ≤ 63 := by rw [List.length_map]; exact hl
  have hM : ∃ M : Nat, M ≤ 93 ∧ (B + (if N < ((ns.map V.int).length : Nat) then N else ((ns.map V.int).length : Nat))) = (M : Int) := by
    by_cases c : N < ((ns.map V.int).length : Nat)
    · rw [if_pos c]
      exact ⟨(B + N).toNat, by omega, by omega⟩
    · rw [if_neg c]
      exact ⟨(B + (ns.map V.int).length).toNat, by omega, by omega⟩
  obtain ⟨M, m9, eM⟩ := hM
  refine ⟨_, rfl, by rw [eM]; omega, by rw [eM]; omega, for_range (n := (B + (if N < ((ns.map V.int).length : Nat) then N else ((ns.map V.int).length : Nat))).toNat) (fun _ σ' H' => LI K Ts L a ns σ' H') i ?_ fun σ' H' q => k σ' H' q⟩
  intro x σ1 H1 hx i1
  rw [eM, Int.toNat_natCast] at hx
  have l1 := i1.len
  have a1 : (σ1.set 1 (some (V.int (0 + (x : Int)))))[0]? = some (some (.ref a)) := by rw [set_keep (by decide)]; exact i1.at0
  have a2 : (σ1.set 1 (some (V.int (0 + (x : Int)))))[1]? = some (some (.int (0 + (x : Int)))) := by rw [List.getElem?_set]; simp; omega
  refine ⟨_, a1, _, a2, a, ns, 0 + (x : Int), rfl, i1.seq, hl, by omega, by omega, fun m c H3 hm M3 s3 => ?_⟩
  have tb3 : Tabs Ts H3 := i1.tb.ext s3
  have l3 : ((σ1.set 1 (some (V.int (0 + (x : Int))))).set j (some (.ref m))).length = L := by rw [List.length_set, List.length_set]; exact l1
  have at3 : ((σ1.set 1 (some (V.int (0 + (x : Int))))).set j (some (.ref m)))[0]? = some (some (.ref a)) := by rw [set_keep hj.1]; exact a1
  have e0 := enO_law (L := L) (C := tabC Ts (drawC m c)) (n := 0) (H := H3) (a := a) (by omega) (by rw [List.length_set]; exact l1) a1 ⟨mok_noT M3, tb3⟩
  have e1 := e0.set (i := j) (v := .ref m) (x := .h (.ref m)) rfl (fun y z => by cases z)
  have hm0 : HasM (tabC Ts (drawC m c)) m c := (hasM_draw m c).tab
  have fin : ∀ σ' ρ' n' H' S' Ls', (tabC Ts (drawC m c)).R H3 (offL H' S') → EnO (tabC Ts (drawC m c)) S' Ls' n' H' σ' ρ' → (ρ'.length = L ∧ ρ'[0]? = some (some (.h (.ref a)))) → LI K Ts L a ns σ' H' := by
    intro σ' ρ' n' H' S' Ls' g e q
    obtain ⟨g2, j2⟩ := full e.inv
    have g3 : (drawC m c).R (noT H3) (noT H') := (tabC Ts (drawC m c)).trans g g2
    have s1 : Same (noT H1) (noT H') := fun b o eb => g3 b o (ne_of_none (noT_some eb).1 hm) (noT_ext (ExtN.of s3) b o eb)
    exact ⟨by rw [e.len]; exact q.1, at0_of e q.2, sql_noT i1.seq s1, j2.2⟩
  refine s (tabC Ts (drawC m c)) noX 0 ((ρL L a).set j (some (.h (.ref m)))) ⟨fun _ ρ' => ρ'.length = L ∧ ρ'[0]? = some (some (.h (.ref a))), fun _ _ => False, fun _ _ => False, fun _ ρ' => ρ'.length = L ∧ ρ'[0]? = some (some (.h (.ref a)))⟩ (hasT_tab Ts _)
    ((h a (.ref m)).imp (fun v z => ⟨m, c, z, hm0⟩) (fun n o => ?_) fun _ _ _ _ z => z.elim) _ H3 _ [] _ e1 (fun _ _ _ _ _ _ _ _ _ _ _ z => z.elim) ?_
  · rintro ⟨ρ', rfl | rfl, q⟩
    · exact q
    · exact q
  · rw [offL_nil]
    refine ⟨fun σ' ρ' n' H' S' Ls' g e q => fin σ' ρ' n' H' S' Ls' g e q, fun _ _ _ _ _ _ _ z => z.elim, fun _ _ _ _ _ _ _ _ z => z.elim, fun σ' ρ' n' H' S' Ls' g e q => fin σ' ρ' n' H' S' Ls' g e q⟩
def spLaw (K : PySem.W.Frag) (Ts : List (Addr × Str)) : Sp := fun vs H Q _ => ∃ (a : Addr) (ns : List Int), vs = [.ref a] ∧ SqL K H a (ns.map V.int) ∧ ns.length ≤ 63 ∧ Tabs Ts H ∧ ∀ H', Q (.bl true) H'
theorem spLaw_len {vs : List V} {H : Hp} {Q : VK} (h : spLaw K Ts vs H Q E) : vs.length = 1 := by
  obtain ⟨a, ns, rfl, _⟩ := h
  rfl
theorem law_run {N : List Str} {vs : List V} {H : Hp} {Q : VK} {t : TS} (h : spLaw K Ts vs H Q E) (hN : (L2.start N [V.non]).length = L) (l : LawE K Ts L t) : t { nx := fun _ H' => Q .non H', rt := Q } (L2.start N vs) H := by
  obtain ⟨a, ns, rfl, hS, hl, tb, kq⟩ := h
  exact l a ns _ H _ hl ⟨hN, rfl, hS, tb⟩ kq
end
end DC
set_option Elab.async false
set_option linter.all false
set_option maxRecDepth 100000
set_option maxHeartbeats 4000000
set_option autoImplicit false
namespace DC
open PySem L2 Gd LamX PySem.ExG CpComb
set_option exponentiation.threshold 10000
/-! ### what a piece promises, shut off -/
structure T.Wp {α : Type} (M : V → Prop) (t : T α) (n : Nat) (P : Nat → α → Prop) (X : XN) : Prop where
  h : T.wp M t n P X
section
variable {M : V → Prop} {X X' : XN} {n : Nat}
theorem T.Wp_eq {α : Type} {t : T α} {P : Nat → α → Prop} : T.Wp M t n P X = T.wp M t n P X := propext ⟨fun h => h.h, fun h => ⟨h⟩⟩
theorem T.Wp_ret {α : Type} {a : α} {P : Nat → α → Prop} : T.Wp M (.ret a) n P X = P n a := T.Wp_eq
theorem T.Wp_r {α : Type} {a : α} {P : Nat → α → Prop} (h : P n a) : T.Wp M (.ret a) n P X := ⟨h⟩
theorem T.Wp_draw {α : Type} {m : V} {many : Int} {k : Int → T α} {P : Nat → α → Prop} (h : M m ∧ n ≤ 100000 ∧ 0 < many ∧ many.natAbs < 2 ^ 8000 ∧ ∀ r, 0 ≤ r → r < many → T.Wp M (k r) (n + 1) P X) : T.Wp M (.draw m many k) n P X :=
  ⟨h.1, h.2.1, h.2.2.1, h.2.2.2.1, fun r a b => (h.2.2.2.2 r a b).h⟩
theorem T.Wp.mono {α : Type} {t : T α} {P P' : Nat → α → Prop} (h : T.Wp M t n P X) (hP : ∀ n a, P n a → P' n a) : T.Wp M t n P' X := ⟨h.h.mono hP⟩
theorem T.Wp_bind {α β : Type} {f : α → T β} {t : T α} {P : Nat → β → Prop} : T.Wp M (T.bind t f) n P X ↔ T.Wp M t n (fun n1 a => T.Wp M (f a) n1 P X) X :=
  ⟨fun h => ⟨(T.wp_bind.mp h.h).mono fun _ _ q => ⟨q⟩⟩, fun h => ⟨T.wp_bind.mpr (h.h.mono fun _ _ q => q.h)⟩⟩
theorem Wp_noxI {α : Type} {t : T α} {P : Nat → α → Prop} (h : T.Wp M t n P (fun _ _ _ _ => False)) : T.Wp M t.nox n P X := ⟨wp_noxI h.h⟩
theorem Wp_forGo {tg : VG} {b : VS} {P : Nat → Out → Prop} (xs : List PyData) (I : Nat → Nat → Dv → Prop)
    (hs : ∀ i x n ρ, xs[i]? = some x → I i n ρ → ∃ ρ1, tg x ρ = some ρ1 ∧ T.Wp M (b ρ1) n (fun n' o => match o with
      | .nx ρ2 => I (i + 1) n' ρ2
      | .ct ρ2 => I (i + 1) n' ρ2
      | .bk ρ2 => P n' (.nx ρ2)
      | .rt x => P n' (.rt x)) X) (hd : ∀ n ρ, I xs.length n ρ → P n (.nx ρ)) {ρ : Dv} (h0 : I 0 n ρ) : T.Wp M (forGo tg b xs ρ) n P X :=
  ⟨wp_forGo xs I (fun i x n ρ h1 h2 => by
    obtain ⟨ρ1, q1, q2⟩ := hs i x n ρ h1 h2
    exact ⟨ρ1, q1, q2.h⟩) hd h0⟩
theorem Wp_lcGo {tg : VG} {vs : List Nat} {tt : VT} {te : VE} {ρ : Dv} {P : Nat → List PyData → Prop} (xs : List PyData) (I : Nat → Nat → List PyData → Prop)
    (hs : ∀ i x n acc, xs[i]? = some x → I i n acc → ∃ ρ', tg x (wipeD ρ vs) = some ρ' ∧ T.Wp M (tt ρ') n (fun n1 b => if b = true then T.Wp M (te ρ') n1 (fun n2 y => ∃ d, y = .d d ∧ I (i + 1) n2 (acc ++ [d])) X else I (i + 1) n1 acc) X)
    (hd : ∀ n acc, I xs.length n acc → P n acc) (h0 : I 0 n []) : T.Wp M (lcGo tg vs tt te ρ xs) n P X :=
  ⟨wp_lcGo xs I (fun i x n acc h1 h2 => by
    obtain ⟨ρ', q1, q2⟩ := hs i x n acc h1 h2
    refine ⟨ρ', q1, q2.h.mono fun n1 b q => ?_⟩
    split at q
    · next e => rw [if_pos e]; exact q.h
    · next e => rw [if_neg e]; exact q) hd h0⟩
end
/-! ### plain lemmas: what a piece promises -/
section
variable {M : V → Prop} {X X' : XN} {n : Nat}
theorem wp_seq {P : Nat → Out → Prop} {a b : VS} {ρ : Dv} (h : (a ρ).Wp M n (fun n o => match o with
    | .nx ρ' => (b ρ').Wp M n P X
    | o => P n o) X) : (sSeq a b ρ).Wp M n P X := by
  refine T.Wp_bind.mpr (h.mono fun n' o q => ?_)
  cases o with
  | nx ρ => exact q
  | rt x => exact T.Wp_r q
  | bk ρ => exact T.Wp_r q
  | ct ρ => exact T.Wp_r q
theorem wp_seq_nx {P : Nat → Out → Prop} {a b : VS} {ρ ρ' : Dv} (e : a ρ = .ret (.nx ρ')) (h : (b ρ').Wp M n P X) : (sSeq a b ρ).Wp M n P X := wp_seq (by rw [e]; exact T.Wp_r h)
theorem wp_seq_rt {P : Nat → Out → Prop} {a b : VS} {ρ : Dv} {x : DVal} (e : a ρ = .ret (.rt x)) (h : P n (.rt x)) : (sSeq a b ρ).Wp M n P X := wp_seq (by rw [e]; exact T.Wp_r h)
theorem wp_asg {P : Nat → Out → Prop} {i : Nat} {f : VE} {ρ : Dv} (h : (f ρ).Wp M n (fun n x => (∀ y, x ≠ .o y) ∧ P n (.nx (ρ.set i (some x)))) X) : (sAsg i f ρ).Wp M n P X := by
  refine T.Wp_bind.mpr (h.mono fun n' x q => ?_)
  cases x with
  | o y => exact absurd rfl (q.1 y)
  | d y => exact T.Wp_r q.2
  | h y => exact T.Wp_r q.2
theorem wp_asgD {P : Nat → Out → Prop} {i : Nat} {f : VE} {ρ : Dv} (h : (f ρ).Wp M n (fun n x => ∃ d, x = .d d ∧ P n (.nx (ρ.set i (some (.d d))))) X) : (sAsg i f ρ).Wp M n P X :=
  wp_asg (h.mono fun n x ⟨d, e, q⟩ => by subst e; exact ⟨(fun y z => by cases z), q⟩)
theorem wp_ret {P : Nat → Out → Prop} {f : VE} {ρ : Dv} (h : (f ρ).Wp M n (fun n x => ∃ d, x = .d d ∧ P n (.rt (.d d))) X) : (sRet f ρ).Wp M n P X := by
  refine T.Wp_bind.mpr (h.mono fun n' x q => ?_)
  obtain ⟨d, e, q⟩ := q
  subst e
  exact T.Wp_r q
theorem wp_call {P : Nat → DVal → Prop} {F : List DVal → T DVal} {a : VA} {ρ : Dv} {xs : List DVal} (e : a ρ = .ret xs) (h : (F xs).Wp M n P fun _ _ _ _ => False) : (vCall F a ρ).Wp M n P X := by
  unfold vCall
  rw [e, T.bind_ret]
  exact Wp_noxI h
theorem wp_for {P : Nat → Out → Prop} {it : VI} {tg : VG} {b : VS} {ρ : Dv} {xs : List PyData} (e : it ρ = .ret xs) (h : (forGo tg b xs ρ).Wp M n P X) : (sFor it tg b ρ).Wp M n P X := by
  unfold sFor
  rw [e, T.bind_ret]
  exact h
theorem wp_fnT {P : Nat → DVal → Prop} {k : Nat} {N : List Str} {b : VS} {xs : List DVal} (h : xs.length = k) (ho : (xs.all fun x => match x with | .o _ => false | _ => true) = true) (hb : (b (ρ0 N xs)).Wp M n (fun n o => match o with
    | .nx _ => P n (.d .none)
    | .rt x => P n x
    | _ => False) X) : (fnT k N b xs).Wp M n P X := by
  have z : (decide (xs.length = k) && xs.all fun x => match x with | .o _ => false | _ => true) = true := by
    rw [decide_eq_true h, Bool.true_and]
    exact ho
  have e : fnT k N b xs = (b (ρ0 N xs)).bind fun o => match o with
    | .nx _ => .ret (.d .none)
    | .rt x => .ret x
    | _ => .stuck := by
    rw [fnT_c]
    exact (congrArg (fun z => need z _) z).trans rfl
  rw [e]
  refine T.Wp_bind.mpr (hb.mono fun n' o q => ?_)
  cases o with
  | nx ρ => exact T.Wp_r q
  | rt x => exact T.Wp_r q
  | bk ρ => exact q.elim
  | ct ρ => exact q.elim
end
theorem fnT_rt {k : Nat} {N : List Str} {b : VS} {xs : List DVal} {x : DVal} (h : xs.length = k) (ho : (xs.all fun x => match x with | .o _ => false | _ => true) = true) (e : b (ρ0 N xs) = .ret (.rt x)) : fnT k N b xs = .ret x := by
  have z : (decide (xs.length = k) && xs.all fun x => match x with | .o _ => false | _ => true) = true := by
    rw [decide_eq_true h, Bool.true_and]
    exact ho
  rw [fnT_c, e, T.bind_ret]
  exact (congrArg (fun z => need z (T.ret x)) z).trans rfl
theorem seq_nx {a b : VS} {ρ ρ' : Dv} {t : T Out} (e : a ρ = .ret (.nx ρ')) (h : b ρ' = t) : sSeq a b ρ = t := by
  unfold sSeq
  rw [e]
  exact h
theorem seq_rt {a b : VS} {ρ : Dv} {x : DVal} (e : a ρ = .ret (.rt x)) : sSeq a b ρ = .ret (.rt x) := by
  unfold sSeq
  rw [e]
  rfl
theorem seq_exc {a b : VS} {ρ : Dv} {c : Nat} {f : Str} {d : PyData} (e : a ρ = .exc c f d) : sSeq a b ρ = .exc c f d := by
  unfold sSeq
  rw [e]
  rfl
theorem fnT_exc {k : Nat} {N : List Str} {b : VS} {xs : List DVal} {c : Nat} {f : Str} {d : PyData} (h : xs.length = k) (ho : (xs.all fun x => match x with | .o _ => false | _ => true) = true) (e : b (ρ0 N xs) = .exc c f d) : fnT k N b xs = .exc c f d := by
  have z : (decide (xs.length = k) && xs.all fun x => match x with | .o _ => false | _ => true) = true := by
    rw [decide_eq_true h, Bool.true_and]
    exact ho
  rw [fnT_c, e]
  exact (congrArg (fun z => need z (T.exc c f d)) z).trans rfl
theorem iR1_nat (a : VE) (o : Option DVal) (ρ : Dv) (k : Nat) (hk : k ≤ 5000) (h : a (o :: ρ) = .ret (.d (.int k))) : iR1 a (o :: ρ) = .ret (rgD 0 k) := by
  unfold iR1
  rw [h, T.bind_ret, asI_0, rgOk_nat hk, need_t, Int.toNat_natCast]
theorem lt8000 {k : Nat} (h : k < 2 ^ 300) : k < 2 ^ 8000 := Nat.lt_trans h (Nat.pow_lt_pow_right (by decide) (by decide))
/-- one of a list, drawn -/
def ofT (ds : List PyData) (r : Int) : T DVal := match atI ds r with
  | some d => .ret (.d d)
  | none => .stuck
theorem of_ok {ds : List PyData} {r : Int} (r0 : 0 ≤ r) (r1 : r < (ds.length : Int)) : ∃ d, d ∈ ds ∧ ofT ds r = .ret (.d d) := by
  obtain ⟨j, rfl⟩ := Int.eq_ofNat_of_zero_le r0
  have hj : j < ds.length := by omega
  refine ⟨ds[j], List.getElem_mem hj, ?_⟩
  unfold ofT
  rw [show atI ds (j : Int) = some ds[j] from atI_nat (List.getElem?_eq_getElem hj)]
theorem mem_cutD {ds : List PyData} {lo hi : Option Int} {d : PyData} (h : d ∈ cutD ds lo hi) : d ∈ ds := List.mem_of_mem_drop (List.mem_of_mem_take h)
theorem cutD_len (ds : List PyData) (lo hi : Option Int) : (cutD ds lo hi).length ≤ ds.length := by
  unfold cutD
  rw [List.length_take, List.length_drop]
  omega
/-! what a piece gives, once its parts are known -/
theorem vCall_ret {F : List DVal → T DVal} {a : VA} {ρ : Dv} {xs : List DVal} {x : DVal} (e : a ρ = .ret xs) (h : F xs = .ret x) : vCall F a ρ = .ret x := by
  unfold vCall
  rw [e, T.bind_ret, h, T.nox_ret]
theorem iL_ret {a : VE} {ρ : Dv} {ds : List PyData} (e : a ρ = .ret (.d (.list ds))) : iL a ρ = .ret ds := by
  unfold iL
  rw [e, T.bind_ret, asL_0]
theorem iT_ret {a : VE} {ρ : Dv} {ds : List PyData} (e : a ρ = .ret (.d (.tuple ds))) : iT a ρ = .ret ds := by
  unfold iT
  rw [e, T.bind_ret, asT_0]
theorem sFor_ret {it : VI} {tg : VG} {b : VS} {ρ : Dv} {xs : List PyData} {t : T Out} (e : it ρ = .ret xs) (h : forGo tg b xs ρ = t) : sFor it tg b ρ = t := by
  unfold sFor
  rw [e, T.bind_ret, h]
theorem aCons_ret {a : VE} {b : VA} {ρ : Dv} {x : DVal} {xs : List DVal} (e : a ρ = .ret x) (h : b ρ = .ret xs) : aCons a b ρ = .ret (x :: xs) := by
  unfold aCons
  rw [e, T.bind_ret, h, T.bind_ret]
theorem sRet_ret {f : VE} {ρ : Dv} {d : PyData} (e : f ρ = .ret (.d d)) : sRet f ρ = .ret (.rt (.d d)) := by
  unfold sRet
  rw [e, T.bind_ret]
  rfl
theorem sAsg_ret {i : Nat} {f : VE} {ρ : Dv} {d : PyData} (e : f ρ = .ret (.d d)) : sAsg i f ρ = .ret (.nx (ρ.set i (some (.d d)))) := by
  unfold sAsg
  rw [e, T.bind_ret]
  rfl
theorem tV_ret {f : VE} {ρ : Dv} {b : Bool} (e : f ρ = .ret (.d (.bool b))) : tV f ρ = .ret b := by
  unfold tV
  rw [e, T.bind_ret, asB_0]
theorem tN_ret {f : VT} {ρ : Dv} {b : Bool} (e : f ρ = .ret b) : tN f ρ = .ret (!b) := by
  unfold tN
  rw [e, T.bind_ret]
theorem tO_f {f g : VT} {ρ : Dv} {t : T Bool} (e : f ρ = .ret false) (h : g ρ = t) : tO f g ρ = t := by
  unfold tO
  rw [e, T.bind_ret, if_neg (by decide), h]
theorem tO_t {f g : VT} {ρ : Dv} (e : f ρ = .ret true) : tO f g ρ = .ret true := by
  unfold tO
  rw [e, T.bind_ret, if_pos rfl]
theorem tA_f {f g : VT} {ρ : Dv} (e : f ρ = .ret false) : tA f g ρ = .ret false := by
  unfold tA
  rw [e, T.bind_ret, if_neg (by decide)]
theorem tA_t {f g : VT} {ρ : Dv} {t : T Bool} (e : f ρ = .ret true) (h : g ρ = t) : tA f g ρ = t := by
  unfold tA
  rw [e, T.bind_ret, if_pos rfl, h]
theorem sIf_f {c : VT} {a b : VS} {ρ : Dv} {t : T Out} (e : c ρ = .ret false) (h : b ρ = t) : sIf c a b ρ = t := by
  unfold sIf
  rw [e, T.bind_ret, if_neg (by decide), h]
theorem sIf_t {c : VT} {a b : VS} {ρ : Dv} {t : T Out} (e : c ρ = .ret true) (h : a ρ = t) : sIf c a b ρ = t := by
  unfold sIf
  rw [e, T.bind_ret, if_pos rfl, h]
theorem vNeD_ret {a b : VE} {ρ : Dv} {d e : PyData} (h1 : a ρ = .ret (.d d)) (h2 : b ρ = .ret (.d e)) (p1 : Gd.plain d = true) (p2 : Gd.plain e = true) : vNeD a b ρ = .ret (.d (.bool (!PyData.eqv d e))) := by
  unfold vNeD
  rw [h1, T.bind_ret, h2, T.bind_ret]
  show need (Gd.plain d) (need (Gd.plain e) _) = _
  rw [p1, p2]
  rfl
theorem vEqD_ret {a b : VE} {ρ : Dv} {d e : PyData} (h1 : a ρ = .ret (.d d)) (h2 : b ρ = .ret (.d e)) (p1 : Gd.plain d = true) (p2 : Gd.plain e = true) : vEqD a b ρ = .ret (.d (.bool (PyData.eqv d e))) := by
  unfold vEqD
  rw [h1, T.bind_ret, h2, T.bind_ret]
  show need (Gd.plain d) (need (Gd.plain e) _) = _
  rw [p1, p2]
  rfl
theorem vCallS_ret {F : List DVal → T DVal} {a : VA} {ρ : Dv} {xs : List DVal} {t : T DVal} (e : a ρ = .ret xs) (h : F xs = t) : vCallS F a ρ = t := by
  unfold vCallS
  rw [e, T.bind_ret, h]
theorem vSaid_ret {tag : Nat → Str → Option Str} {t : VE} {ρ : Dv} {d : PyData} (e : t ρ = .ret (.d d)) : vSaid tag t ρ = .ret (.d (.list [d])) := by
  unfold vSaid
  rw [e]
theorem vSaid_exc {tag : Nat → Str → Option Str} {t : VE} {ρ : Dv} {c : Nat} {f tg : Str} {d : PyData} (e : t ρ = .exc c f d) (h : tag c f = some tg) : vSaid tag t ρ = .ret (.d (.tuple [.str tg, d])) := by
  unfold vSaid
  rw [e]
  dsimp only
  rw [h]
theorem vTup_ret {a : VA} {ρ : Dv} {xs : List DVal} {ds : List PyData} (e : a ρ = .ret xs) (h : unD xs = some ds) (hl : ds.length ≤ 5000) : vTup a ρ = .ret (.d (.tuple ds)) := by
  unfold vTup
  rw [e, T.bind_ret, h]
  show need (decide (ds.length ≤ 5000)) _ = _
  rw [decide_eq_true hl]
  rfl
theorem vRepr_ret {a : VE} {ρ : Dv} {d : PyData} (e : a ρ = .ret (.d d)) (h : smR d = true) : vRepr a ρ = .ret (.d (.str d.shown)) := by
  unfold vRepr
  rw [e, T.bind_ret, asD_0, h]
  rfl
theorem vNe_str {a b : VE} {ρ : Dv} {x : Str} (h1 : a ρ = .ret (.d (.str x))) (h2 : b ρ = .ret (.d (.str x))) : vNe a b ρ = .ret (.d (.bool false)) := by
  unfold vNe
  rw [h1, T.bind_ret, h2, T.bind_ret]
  simp [asSc, sc]
theorem vEq_str {a b : VE} {ρ : Dv} {x : Str} (h1 : a ρ = .ret (.d (.str x))) (h2 : b ρ = .ret (.d (.str x))) : vEq a b ρ = .ret (.d (.bool true)) := by
  unfold vEq
  rw [h1, T.bind_ret, h2, T.bind_ret]
  simp [asSc, sc]
/-! what a piece with draws in it promises -/
section
variable {M : V → Prop} {X X' : XN} {n : Nat}
theorem wp_of_ret {α : Type} {P : Nat → α → Prop} {t : T α} {x : α} (e : t = .ret x) (h : P n x) : t.Wp M n P X := by
  rw [e]
  exact T.Wp_r h
theorem wp_cons {P : Nat → List DVal → Prop} {a : VE} {b : VA} {ρ : Dv} (h : (a ρ).Wp M n (fun n x => (b ρ).Wp M n (fun n xs => P n (x :: xs)) X) X) : (aCons a b ρ).Wp M n P X :=
  T.Wp_bind.mpr (h.mono fun n' x q => T.Wp_bind.mpr (q.mono fun n2 xs p => T.Wp_r p))
theorem wp_var {P : Nat → DVal → Prop} {i : Nat} {ρ : Dv} {x : DVal} (e : ρ[i]? = some (some x)) (h : P n x) : (vVar i ρ).Wp M n P X := by
  unfold vVar
  rw [e]
  exact T.Wp_r h
theorem wp_nil {P : Nat → List DVal → Prop} {ρ : Dv} (h : P n []) : (aNil ρ).Wp M n P X := T.Wp_r h
theorem wp_vC {P : Nat → DVal → Prop} {d : PyData} {ρ : Dv} (h : P n (.d d)) : (vC d ρ).Wp M n P X := T.Wp_r h
theorem wp_vcall {P : Nat → DVal → Prop} {F : List DVal → T DVal} {a : VA} {ρ : Dv} (h : (a ρ).Wp M n (fun n xs => (F xs).Wp M n P fun _ _ _ _ => False) X) : (vCall F a ρ).Wp M n P X :=
  T.Wp_bind.mpr (h.mono fun n' xs q => Wp_noxI q)
theorem wp_int {P : Nat → DVal → Prop} {g : Int → Int → Int} {a b : VE} {ρ : Dv} (h : (a ρ).Wp M n (fun n x => ∃ i, x = .d (.int i) ∧ (b ρ).Wp M n (fun n y => ∃ j, y = .d (.int j) ∧ P n (.d (.int (g i j)))) X) X) : (vInt g a b ρ).Wp M n P X := by
  refine T.Wp_bind.mpr (h.mono fun n' x q => ?_)
  obtain ⟨i, e, q⟩ := q
  subst e
  refine T.Wp_bind.mpr (q.mono fun n2 y p => ?_)
  obtain ⟨j, e, p⟩ := p
  subst e
  exact T.Wp_r p
theorem wp_iR1 {P : Nat → List PyData → Prop} {a : VE} {ρ : Dv} (h : (a ρ).Wp M n (fun n x => ∃ k : Nat, x = .d (.int k) ∧ k ≤ 5000 ∧ P n (rgD 0 k)) X) : (iR1 a ρ).Wp M n P X := by
  refine T.Wp_bind.mpr (h.mono fun n' x q => ?_)
  obtain ⟨k, e, hk, q⟩ := q
  subst e
  rw [asI_0, rgOk_nat hk, need_t, Int.toNat_natCast]
  exact T.Wp_r q
theorem wp_lc {P : Nat → DVal → Prop} {it : VI} {tg : VG} {tt : VT} {te : VE} {vs : List Nat} {ρ : Dv} (h : (it ρ).Wp M n (fun n xs => xs.length ≤ 5000 ∧ (lcGo tg vs tt te ρ xs).Wp M n (fun n ds => P n (.d (.list ds))) fun _ _ _ _ => False) X) : (vLc it tg tt te vs ρ).Wp M n P X := by
  refine T.Wp_bind.mpr (h.mono fun n' xs q => ?_)
  rw [decide_eq_true q.1, need_t]
  exact T.Wp_bind.mpr (Wp_noxI (q.2.mono fun _ _ q => T.Wp_r q))
theorem wp_tup {P : Nat → DVal → Prop} {a : VA} {ρ : Dv} (h : (a ρ).Wp M n (fun n xs => ∃ ds, unD xs = some ds ∧ ds.length ≤ 5000 ∧ P n (.d (.tuple ds))) X) : (vTup a ρ).Wp M n P X := by
  refine T.Wp_bind.mpr (h.mono fun n' xs q => ?_)
  obtain ⟨ds, e, hl, q⟩ := q
  rw [e]
  dsimp only
  rw [decide_eq_true hl, need_t]
  exact T.Wp_r q
theorem wp_lst {P : Nat → DVal → Prop} {a : VA} {ρ : Dv} (h : (a ρ).Wp M n (fun n xs => ∃ ds, unD xs = some ds ∧ ds.length ≤ 5000 ∧ P n (.d (.list ds))) X) : (vLst a ρ).Wp M n P X := by
  refine T.Wp_bind.mpr (h.mono fun n' xs q => ?_)
  obtain ⟨ds, e, hl, q⟩ := q
  rw [e]
  dsimp only
  rw [decide_eq_true hl, need_t]
  exact T.Wp_r q
theorem wp_cat {P : Nat → DVal → Prop} {a b : VE} {ρ : Dv} (h : (a ρ).Wp M n (fun n x => ∃ ds, x = .d (.list ds) ∧ (b ρ).Wp M n (fun n y => ∃ es, y = .d (.list es) ∧ ds.length + es.length ≤ 5000 ∧ P n (.d (.list (ds ++ es)))) X) X) : (vCat a b ρ).Wp M n P X := by
  refine T.Wp_bind.mpr (h.mono fun n' x q => ?_)
  obtain ⟨ds, e, q⟩ := q
  subst e
  refine T.Wp_bind.mpr (q.mono fun n2 y p => ?_)
  obtain ⟨es, e, hl, p⟩ := p
  subst e
  rw [asL_0, decide_eq_true hl, need_t]
  exact T.Wp_r p
theorem wp_if {P : Nat → Out → Prop} {c : VT} {a b : VS} {ρ : Dv} (h : (c ρ).Wp M n (fun n x => if x = true then (a ρ).Wp M n P X else (b ρ).Wp M n P X) X) : (sIf c a b ρ).Wp M n P X := by
  refine T.Wp_bind.mpr (h.mono fun n' x q => ?_)
  split at q
  · next e => rw [if_pos e]; exact q
  · next e => rw [if_neg e]; exact q
theorem wp_tV {P : Nat → Bool → Prop} {f : VE} {ρ : Dv} (h : (f ρ).Wp M n (fun n x => ∃ b, x = .d (.bool b) ∧ P n b) X) : (tV f ρ).Wp M n P X := by
  refine T.Wp_bind.mpr (h.mono fun n' x q => ?_)
  obtain ⟨b, e, q⟩ := q
  subst e
  exact T.Wp_r q
theorem wp_tN {P : Nat → Bool → Prop} {f : VT} {ρ : Dv} (h : (f ρ).Wp M n (fun n x => P n (!x)) X) : (tN f ρ).Wp M n P X := T.Wp_bind.mpr (h.mono fun _ _ q => T.Wp_r q)
theorem wp_tO {P : Nat → Bool → Prop} {f g : VT} {ρ : Dv} (h : (f ρ).Wp M n (fun n x => if x = true then P n true else (g ρ).Wp M n P X) X) : (tO f g ρ).Wp M n P X := by
  refine T.Wp_bind.mpr (h.mono fun n' x q => ?_)
  split at q
  · next e => rw [if_pos e]; exact T.Wp_r q
  · next e => rw [if_neg e]; exact q
theorem wp_sFor {P : Nat → Out → Prop} {it : VI} {tg : VG} {b : VS} {ρ : Dv} (h : (it ρ).Wp M n (fun n xs => (forGo tg b xs ρ).Wp M n P X) X) : (sFor it tg b ρ).Wp M n P X := T.Wp_bind.mpr h
theorem wp_par {P : Nat → Out → Prop} {i j : Nat} {a : VA} {ρ : Dv} (h : (a ρ).Wp M n (fun n xs => ∃ d e, xs = [.d d, .d e] ∧ P n (.nx ((ρ.set i (some (.d d))).set j (some (.d e))))) X) : (sPar i j a ρ).Wp M n P X := by
  refine T.Wp_bind.mpr (h.mono fun n' xs q => ?_)
  obtain ⟨d, e, e1, q⟩ := q
  subst e1
  exact T.Wp_r q
theorem wp_tupOfL {P : Nat → DVal → Prop} {a : VE} {ρ : Dv} (h : (a ρ).Wp M n (fun n x => ∃ ds, x = .d (.list ds) ∧ P n (.d (.tuple ds))) X) : (vTupOf a ρ).Wp M n P X := by
  refine T.Wp_bind.mpr (h.mono fun n' x q => ?_)
  obtain ⟨ds, e, q⟩ := q
  subst e
  exact T.Wp_r q
theorem wp_tupOfL' {P : Nat → DVal → Prop} {a : VE} {ρ : Dv} (h : (a ρ).Wp M n (fun n x => ∃ ds, x = .d (.list ds) ∧ P n (.d (.tuple ds))) X) : (vTupOf a ρ).Wp M n P X := wp_tupOfL h
theorem wp_vEqI {P : Nat → DVal → Prop} {a b : VE} {ρ : Dv} (h : (a ρ).Wp M n (fun n x => ∃ i, x = .d (.int i) ∧ (b ρ).Wp M n (fun n y => ∃ j, y = .d (.int j) ∧ P n (.d (.bool (decide (i = j))))) X) X) : (vEq a b ρ).Wp M n P X := by
  refine T.Wp_bind.mpr (h.mono fun n' x q => ?_)
  obtain ⟨i, e, q⟩ := q
  subst e
  refine T.Wp_bind.mpr (q.mono fun n2 y p => ?_)
  obtain ⟨j, e, p⟩ := p
  subst e
  exact T.Wp_r p
theorem wp_min2 {P : Nat → DVal → Prop} {a b : VE} {ρ : Dv} (h : (a ρ).Wp M n (fun n x => ∃ i, x = .d (.int i) ∧ (b ρ).Wp M n (fun n y => ∃ j, y = .d (.int j) ∧ P n (.d (.int (if j < i then j else i)))) X) X) : (vMin2 a b ρ).Wp M n P X := by
  refine T.Wp_bind.mpr (h.mono fun n' x q => ?_)
  obtain ⟨i, e, q⟩ := q
  subst e
  refine T.Wp_bind.mpr (q.mono fun n2 y p => ?_)
  obtain ⟨j, e, p⟩ := p
  subst e
  exact T.Wp_r p
end
end DC
set_option Elab.async false
set_option linter.all false
set_option maxRecDepth 100000
set_option maxHeartbeats 4000000
set_option autoImplicit false
namespace DC
open PySem L2 Gd LamX CpComb RZ PySem.ExG
set_option exponentiation.threshold 10000
section
variable {Ts : List (Addr × Str)} {cm : Nat → Addr} {E : XK} {K : PySem.W.Frag}
/-! #### while -/
def whGo (c : VT) (b : VS) : Nat → Dv → T Out
  | 0, _ => .stuck
  | k + 1, ρ => (c ρ).bind fun x => if x = true then (b ρ).bind fun o => match o with
      | .nx ρ2 => whGo c b k ρ2
      | .ct ρ2 => whGo c b k ρ2
      | .bk ρ2 => .ret (.nx ρ2)
      | .rt x => .ret (.rt x)
    else .ret (.nx ρ)
theorem whGo_succ (c : VT) (b : VS) (k : Nat) (ρ : Dv) : whGo c b (k + 1) ρ = (c ρ).bind fun x => if x = true then (b ρ).bind fun o => match o with
      | .nx ρ2 => whGo c b k ρ2
      | .ct ρ2 => whGo c b k ρ2
      | .bk ρ2 => .ret (.nx ρ2)
      | .rt x => .ret (.rt x)
    else .ret (.nx ρ) := rfl
/-- as many turns as are looked at -/
@[irreducible] def whFuel : Nat := 2 ^ 400
def sWhile (c : VT) (b : VS) : VS := fun ρ => whGo c b whFuel ρ
@[simp] theorem sWhile_c (c : VT) (b : VS) (o : Option DVal) (ρ : Dv) : sWhile c b (o :: ρ) = whGo c b whFuel (o :: ρ) := rfl
theorem sns_while {t : TT} {tb : TS} {c : VT} {b : VS} (s0 : SndT Ts cm E t c) (s1 : SndS Ts cm E tb b) : SndS Ts cm E (tWhile t tb) (sWhile c b) := fun C X n ρ p hT h σ H D S Ls e0 x0 k0 => by
  refine ⟨fun m σ' H' => ∃ n2 ρ2 S2 Ls2, C.R (offL H S) (offL H' S2) ∧ EnO C S2 Ls2 n2 H' σ' ρ2 ∧ (whGo c b m ρ2).wp (MM C) n2 (pOut p) (xn cm X), ⟨whFuel, n, ρ, S, Ls, C.refl _, e0, h⟩, ?_⟩
  rintro m σ' H' ⟨n2, ρ2, S2, Ls2, g2, e2, p2⟩
  cases m with
  | zero => exact p2.elim
  | succ m =>
    refine (s0.own hT (T.wp_bind.mp p2)) σ' H' _ e2.inv e2.en (xok_own (x0.up g2)) fun bb n3 H3 g j q => ?_
    have e3 := e2.up g j
    have g13 := C.trans g2 g.1
    replace q : (if bb = true then (b ρ2).bind fun o => match o with
      | .nx ρ2 => whGo c b m ρ2
      | .ct ρ2 => whGo c b m ρ2
      | .bk ρ2 => .ret (.nx ρ2)
      | .rt x => .ret (.rt x)
    else .ret (.nx ρ2)).wp (MM C) n3 (pOut p) (xn cm X) := q
    by_cases hb : bb = true
    · rw [if_pos hb] at q
      rw [if_pos hb]
      refine ⟨fun σ4 H4 => ∃ n4 ρ4 S4 Ls4, C.R (offL H S) (offL H4 S4) ∧ EnO C S4 Ls4 n4 H4 σ4 ρ4 ∧ (whGo c b m ρ4).wp (MM C) n4 (pOut p) (xn cm X), fun σ4 H4 w => ⟨m, Nat.lt_succ_self m, w⟩, ?_⟩
      exact s1 C X n3 ρ2 ⟨fun n4 ρ4 => (whGo c b m ρ4).wp (MM C) n4 (pOut p) (xn cm X), p.rt, p.nx, fun n4 ρ4 => (whGo c b m ρ4).wp (MM C) n4 (pOut p) (xn cm X)⟩ hT ((T.wp_bind.mp q).mono fun n4 o z => by cases o <;> exact z) σ' H3 _ S2 Ls2 e3 (x0.up g13)
        ⟨fun σ5 ρ5 n5 H5 S5 Ls5 g5 e5 p5 => ⟨n5, ρ5, S5, Ls5, C.trans g13 g5, e5, p5⟩, (k0.up g13).rt, (k0.up g13).nx, fun σ5 ρ5 n5 H5 S5 Ls5 g5 e5 p5 => ⟨n5, ρ5, S5, Ls5, C.trans g13 g5, e5, p5⟩⟩
    · rw [if_neg hb] at q
      rw [if_neg hb]
      exact k0.nx σ' ρ2 n3 H3 S2 Ls2 g13 e3 q
/-! #### math.gcd -/
def vGcd (a b : VE) : VE := fun ρ => (a ρ).bind fun x => asI x fun i => (b ρ).bind fun y => asI y fun j => .ret (.d (.int ((Nat.gcd i.natAbs j.natAbs : Nat) : Int)))
@[simp] theorem vGcd_c (a b : VE) (o : Option DVal) (ρ : Dv) : vGcd a b (o :: ρ) = (a (o :: ρ)).bind fun x => asI x fun i => (b (o :: ρ)).bind fun y => asI y fun j => .ret (.d (.int ((Nat.gcd i.natAbs j.natAbs : Nat) : Int))) := rfl
theorem e_gcd {C : Ctx} {X : XP} {n : Nat} {ρ : Dv} {P : Nat → DVal → Prop} {ta tb : TE} (h : EJ C E X n ρ ta fun n1 x => ∃ i, x = .d (.int i) ∧ EJ C E X n1 ρ tb fun n2 y => ∃ j, y = .d (.int j) ∧ P n2 (.d (.int ((Nat.gcd i.natAbs j.natAbs : Nat) : Int)))) :
    EJ C E X n ρ (tCB rGcd (tCons ta (tCons tb tNil))) P :=
  e_cb (a_cons (h.imp fun n1 x ⟨i, ex, q⟩ => a_cons (q.imp fun n2 y ⟨j, ey, p⟩ => a_nil fun H1 vs Q I r k => by
    subst ex ey
    obtain ⟨v, u, rfl, rv, ru⟩ := repL2 r
    have a := da_int rv
    have b := da_int ru
    subst a b
    exact ⟨i, j, rfl, k _ _ _ (C.refl _) I (.int _) p⟩)))
theorem snd_gcd {ta tb : TE} {a b : VE} (s1 : Snd Ts cm E ta a) (s2 : Snd Ts cm E tb b) : Snd Ts cm E (tCB rGcd (tCons ta (tCons tb tNil))) (vGcd a b) := fun C X n ρ P hT h => e_gcd (s1.bind hT h fun n1 x q => by
  obtain ⟨i, e, q⟩ := asI_x q
  exact ⟨i, e, s2.bind hT q fun n2 y q => asI_x q⟩)
/-! #### a list so many times -/
def vRepL (a b : VE) : VE := fun ρ => (a ρ).bind fun x => asL x fun ds => (b ρ).bind fun y => asI y fun k => need (decide (0 ≤ k) && decide (k ≤ 1000) && decide (ds.length * k.toNat ≤ 5000)) (.ret (.d (.list (List.replicate k.toNat ds).flatten)))
@[simp] theorem vRepL_c (a b : VE) (o : Option DVal) (ρ : Dv) : vRepL a b (o :: ρ) = (a (o :: ρ)).bind fun x => asL x fun ds => (b (o :: ρ)).bind fun y => asI y fun k => need (decide (0 ≤ k) && decide (k ≤ 1000) && decide (ds.length * k.toNat ≤ 5000)) (.ret (.d (.list (List.replicate k.toNat ds).flatten))) := rfl
theorem e_repL {C : Ctx} {X : XP} {n : Nat} {ρ : Dv} {P : Nat → DVal → Prop} {ta tb : TE} (h : EJ C E X n ρ ta fun n1 x => ∃ ds, x = .d (.list ds) ∧ EJ C E X n1 ρ tb fun n2 y => ∃ k : Int, y = .d (.int k) ∧ 0 ≤ k ∧ k ≤ 1000 ∧ ds.length * k.toNat ≤ 5000 ∧ P n2 (.d (.list (List.replicate k.toNat ds).flatten))) : EJ C E X n ρ (tOp rRep ta tb) P :=
  e_two (h.imp fun n1 x ⟨ds, e, q⟩ => by
    subst e
    refine q.imp fun n2 y ⟨k0, e, h2, h3, hl, p⟩ => ?_
    subst e
    intro H2 v u Q I r1 r2 k
    obtain ⟨a, xs, rfl, ha, hx⟩ := da_list r1
    have b := da_int r2
    subst b
    refine ⟨a, k0, xs, rfl, rfl, C.sub _ _ ha, ?_, ?_, ?_, fun q hq => ?_⟩
    · exact Int.le_trans (by decide) h2
    · exact Int.lt_of_le_of_lt h3 (by decide)
    · rw [hx.length, sizeLine_eq]
      exact Nat.le_trans hl (by decide)
    · obtain ⟨a', b', c'⟩ := C.new (.lst (List.replicate k0.toNat xs).flatten) I hq
      exact k _ _ _ a' b' (Rep.lst c' (dal_rep (DaL.mono (C.vwm a') hx) _)) p)
theorem snd_repL {ta tb : TE} {a b : VE} (s1 : Snd Ts cm E ta a) (s2 : Snd Ts cm E tb b) : Snd Ts cm E (tOp rRep ta tb) (vRepL a b) := fun C X n ρ P hT h =>
  e_repL (s1.bind hT h fun n1 x q => by
    obtain ⟨i, e, q⟩ := asL_x q
    exact ⟨i, e, s2.bind hT q fun n2 y q => by
      obtain ⟨j, e, q⟩ := asI_x q
      obtain ⟨h1, h2⟩ := need_x q
      simp only [Bool.and_eq_true, decide_eq_true_eq] at h1
      exact ⟨j, e, h1.1.1, h1.1.2, h1.2, h2⟩⟩)
/-! #### is not True, is not False -/
def vNotB (a b : VE) : VE := fun ρ => (a ρ).bind fun x => asB x fun i => (b ρ).bind fun y => asB y fun j => .ret (.d (.bool (!decide (i = j))))
@[simp] theorem vNotB_c (a b : VE) (o : Option DVal) (ρ : Dv) : vNotB a b (o :: ρ) = (a (o :: ρ)).bind fun x => asB x fun i => (b (o :: ρ)).bind fun y => asB y fun j => .ret (.d (.bool (!decide (i = j)))) := rfl
theorem snd_notBl {ta tb : TE} {a b : VE} (s1 : Snd Ts cm E ta a) (s2 : Snd Ts cm E tb b) : Snd Ts cm E (tOp rNotB ta tb) (vNotB a b) := fun C X n ρ P hT h =>
  e_two (s1.bind hT h fun n1 x q => by
    obtain ⟨i, e, q⟩ := asB_x q
    refine s2.bind hT q fun n2 y q => ?_
    obtain ⟨j, e2, q⟩ := asB_x q
    subst e e2
    intro H2 v u Q I r1 r2 k
    have a := da_bool r1
    have b := da_bool r2
    subst a b
    exact ⟨i, j, rfl, rfl, k _ _ _ (C.refl _) I (.bl _) q⟩)
/-! #### a comprehension over a list of one's own -/
theorem e_lcO {C : Ctx} {X : XP} {n : Nat} {ρ : Dv} {i0 : Nat} {xs : List PyData} {g : TG} {tt : TT} {te : TE} {vs : List Nat} {P : Nat → DVal → Prop} (ho : ρ[i0]? = some (some (.o (.l xs)))) (hz : xs.length ≤ 5000)
    (I : Nat → Nat → List PyData → Prop) (hI : I 0 n [])
    (ht : ∀ C', Le C C' → ∀ i x n2 acc, xs[i]? = some x → I i n2 acc → ∃ sl ρ', (∀ j ∈ sl, j ∈ vs) ∧ GJ sl g x (wipeD ρ vs) ρ' ∧
        TJ C' E noX n2 ρ' tt fun n3 b => if b = true then EJ C' E noX n3 ρ' te fun n4 y => ∃ d, y = .d d ∧ I (i + 1) n4 (acc ++ [d]) else I (i + 1) n3 acc)
    (hd : ∀ n2 acc, acc.length ≤ xs.length → I xs.length n2 acc → P n2 (.d (.list acc))) : EJ C E X n ρ (tLc (iList K (tVar i0)) g tt te vs) P := fun σ H Q J0 e0 x0 k0 => by
  obtain ⟨v0, hv0, L, hL, a, ws, rfl, rfl, ha, hws⟩ := e0.get i0 _ ho
  have hha : C.hid a := hL a (List.mem_singleton_self a)
  refine ⟨.ref a, hv0, a, rfl, ⟨ws, SqL.of ha⟩, ?_⟩
  intro D hD
  have nh := nohid J0 hD
  have o0 : off (upd H D (.lst [])) D = H := by rw [off_upd_at, off_none hD]
  refine ⟨fun i m H' => m = xs.length - i ∧ i ≤ xs.length ∧ ∃ n2 acc accV, H' D = some (.lst accV) ∧ DaL (C.vw (off H' D)) accV acc ∧ acc.length ≤ i ∧ C.R H (off H' D) ∧ C.inv n2 (off H' D) ∧ I i n2 acc,
    ⟨xs.length, by simp, Nat.zero_le _, n, [], [], upd_same, .nil, Nat.zero_le _, by rw [o0]; exact C.refl _, by rw [o0]; exact J0, hI⟩, ?_⟩
  rintro i m H' ⟨rfl, hi, n2, acc, accV, hDl, hacc, hal, g2, i2, p2⟩
  have ha' : H' a = some (.lst ws) := (off_some (C.kept g2 hha ha rfl)).2
  have hws' : DaL (C.vw (off H' D)) ws xs := hws.mono (C.vwm g2)
  by_cases hlt : i < xs.length
  · have hwl : i < ws.length := by rw [hws.length]; exact hlt
    refine .inr ⟨⟨ws, ws[i], SqL.of ha', List.getElem?_eq_getElem hwl⟩, fun H3 => ∃ n3 acc3 accV3, H3 D = some (.lst accV3) ∧ DaL (C.vw (off H3 D)) accV3 acc3 ∧ acc3.length ≤ i + 1 ∧ C.R H (off H3 D) ∧ C.inv n3 (off H3 D) ∧ I (i + 1) n3 acc3, fun H3 w => ⟨xs.length - (i + 1), by omega, rfl, hlt, w⟩, fun v H3 hy => ?_⟩
    obtain ⟨rfl, hy⟩ := hy
    have hx : xs[i]? = some xs[i] := List.getElem?_eq_getElem hlt
    have ih : (hideC C D).inv n2 H3 := ⟨i2, ⟨_, hDl, rfl⟩, nh⟩
    have c : Rep (hideC C D) H3 v (.d xs[i]) := dal_at hws' hx (hy ws (SqL.of ha'))
    obtain ⟨sl, ρ', hsl, hg, hb⟩ := ht (hideC C D) (Le.hide C D) i _ n2 acc hx p2
    have en1 : En (hideC C D) H3 (wipe σ vs) (wipeD ρ vs) := en_hide ((e0.wipe vs).up g2)
    refine hg (hideC C D) H3 v (wipe σ vs) _ c en1 fun σ4 e4 w4 => ⟨?_, ?_⟩
    · rw [w4 vs hsl, wipe_wipe fun i q => q]
    · refine hb σ4 H3 _ ih e4 (fun _ _ _ _ _ _ _ _ _ _ _ z => z.elim) fun bb n3 H4 g4 i4 p4 => ?_
      have D4 : H4 D = some (.lst accV) := g4.2 _ hDl
      have g14 : C.R H (off H4 D) := C.trans g2 g4.1
      have acc4 : DaL (C.vw (off H4 D)) accV acc := hacc.mono (C.vwm g4.1)
      by_cases hbb : bb = true
      · replace p4 := ifp hbb p4
        rw [if_pos hbb]
        refine p4 σ4 H4 _ i4 (e4.up g4) (fun _ _ _ _ _ _ _ _ _ _ _ z => z.elim) fun w y n4 H5 g5 i5 r5 ⟨d, ey, p5⟩ => ?_
        subst ey
        have D5 : H5 D = some (.lst accV) := g5.2 _ D4
        have acc5 := acc4.mono (C.vwm g5.1)
        refine ⟨accV, D5, ?_, n4, acc ++ [d], accV ++ [w], upd_same, ?_, ?_, ?_, ?_, p5⟩
        · rw [acc5.length]
          exact Nat.lt_of_lt_of_le (show acc.length < 5001 by omega) (by rw [sizeLine_eq]; decide)
        · rw [off_upd_at]
          exact dal_app acc5 (.cons r5 .nil)
        · rw [List.length_append]; show acc.length + 1 ≤ _; omega
        · rw [off_upd_at]; exact C.trans g14 g5.1
        · rw [off_upd_at]; exact i5.1
      · replace p4 := ifn hbb p4
        rw [if_neg hbb]
        exact ⟨n3, acc, accV, D4, acc4, by omega, g14, i4.1, p4⟩
  · have e : i = xs.length := by omega
    subst e
    refine .inl ⟨⟨ws, SqL.of ha', Nat.le_of_eq hws.length⟩, ?_⟩
    obtain ⟨a, b, c⟩ := C.new (.lst accV) i2 (off_at (H := H') (m := D))
    rw [upd_off hDl] at a b c
    exact k0 _ _ n2 H' (C.trans g2 a) b (.lst c (hacc.mono (C.vwm a))) (hd n2 acc hal p2)
def vLcO (i0 : Nat) (tg : VG) (tt : VT) (te : VE) (vs : List Nat) : VE := fun ρ => match ρ[i0]? with
  | some (some (.o (.l xs))) => need (decide (xs.length ≤ 5000)) ((lcGo tg vs tt te ρ xs).nox.bind fun ds => .ret (.d (.list ds)))
  | some (some (.d (.list xs))) => need (decide (xs.length ≤ 5000)) ((lcGo tg vs tt te ρ xs).nox.bind fun ds => .ret (.d (.list ds)))
  | _ => .stuck
theorem snd_lcO {g : TG} {tt : TT} {te : TE} {vs sl : List Nat} {i0 : Nat} {tg : VG} {c : VT} {f : VE} (sg : SndG sl g tg) (hs : ∀ j ∈ sl, j ∈ vs) (st : SndT Ts cm E tt c) (se : Snd Ts cm E te f) :
    Snd Ts cm E (tLc (iList K (tVar i0)) g tt te vs) (vLcO i0 tg c f vs) := fun C X n ρ P hT h => by
  unfold vLcO at h
  split at h
  · next xs ho =>
    obtain ⟨h1, q⟩ := need_x h
    refine e_lcO ho (of_decide_eq_true h1) (fun i n2 acc => ((lcGo tg vs c f ρ (xs.drop i)).nox).wp (MM C) n2 (fun n3 ds => P n3 (.d (.list (acc ++ ds)))) (xn cm X)) (by simpa using T.wp_bind.mp q) (fun C' le i x n2 acc hx I => ?_) (fun n2 acc _ I => ?_)
    · obtain ⟨hi, ex⟩ := List.getElem?_eq_some_iff.mp hx
      have I : ((lcGo tg vs c f ρ (xs.drop i)).nox).wp (MM C) n2 (fun n3 ds => P n3 (.d (.list (acc ++ ds)))) (xn cm X) := I
      rw [List.drop_eq_getElem_cons hi, ex] at I
      unfold lcGo at I
      split at I
      · exact I.elim
      · next ρ' e =>
        refine ⟨sl, ρ', hs, sg _ _ _ e, ?_⟩
        rw [T.nox_bind] at I
        have hT' := le.hasT hT
        have I2 := (T.wp_bind.mp I).imp (X' := xn cm X) (MM.le le) (fun _ _ p => p) (fun _ _ _ _ p => p)
        refine (st C' noX n2 ρ' _ hT' (T.wp_nox I2)).imp fun n3 b p => ?_
        by_cases hb : b = true
        · rw [if_pos hb] at p ⊢
          rw [T.nox_bind] at p
          have p2 := (T.wp_bind.mp p).imp (X' := xn cm X) (MM.le le) (fun _ _ p => p) (fun _ _ _ _ p => p)
          refine (se C' noX n3 ρ' _ hT' (T.wp_nox p2)).imp fun n4 y p => ?_
          cases y with
          | d d =>
            refine ⟨d, rfl, ?_⟩
            have p3 : (((lcGo tg vs c f ρ (xs.drop (i + 1))).bind fun ds => T.ret (d :: ds)).nox).wp (MM C) n4 (fun n3 ds => P n3 (.d (.list (acc ++ ds)))) (xn cm X) := p
            rw [T.nox_bind] at p3
            refine (T.wp_bind.mp p3).mono fun n5 ds p => ?_
            rw [List.append_assoc]
            exact p
          | h v => exact p.elim
          | o x => exact p.elim
        · rw [if_neg hb] at p ⊢
          exact p
    · have I : ((lcGo tg vs c f ρ (xs.drop xs.length)).nox).wp (MM C) n2 (fun n3 ds => P n3 (.d (.list (acc ++ ds)))) (xn cm X) := I
      rw [List.drop_length] at I
      simpa [lcGo] using I
  · next xs ho =>
    refine snd_lc (sni_list snd_var) sg hs st se C X n ρ P hT ?_
    have e : iL (vVar i0) ρ = .ret xs := by
      unfold iL vVar
      rw [ho]
      rfl
    unfold vLc
    rw [e]
    exact h
  · exact h.elim
end
end DC
set_option Elab.async false
set_option linter.all false
set_option maxRecDepth 100000
set_option maxHeartbeats 4000000
/-! an exception that is caught, kept in a name, and looked at behind the suite -/
namespace PySem.W
open PySem PySem.Spec PySem.Calls PyProof.Rows
section
variable {prog : Program} {w : World} {A : Around} {E : Value → Shared → Prop} {s : Shared} {K : Frag} {x D : Addr} {ox : Obj} {od : Option Obj}
theorem gd_findObj {C : Addr} {name : Str} {a g : Value} (hc : (clsIn K C).isSome = true) (ha : findIn K (.ref C) name = some (some a)) (hg : specialIn K a "__get__" = some (some g)) (ht : takesIn K a = some true) : findObj K C od name = some (.bind g a) := by
  obtain ⟨cd, hc⟩ := Option.isSome_iff_exists.mp hc
  unfold findObj
  rw [hc, Option.bind_some, ha, Option.bind_some]
  simp [hg, ht]
theorem gd_classE {Q : Option Value → Shared → Prop} (hga : findIn K (.ref D) "__getattribute__" = some (some (.builtin "BaseException.__getattribute__"))) (hgt : findIn K (.ref D) "__getattr__" = some none) (hsub : subIn K (.ref D) (.type "BaseException") = some true)
    (hdct : hasDictIn K D = true) (ha : findIn K (.ref D) "__class__" = some (some (.builtin "object.__class__")))
    (hn : specialIn K (.builtin "object.__class__") "__get__" = some (some (.builtin "getset_descriptor.__get__"))) (htk : takesIn K (.builtin "object.__class__") = some true) (hm : mroIn K D (.type "object") = some true)
    (X : K.In s.heap) (I : InstAt s.heap x ox D od) (h : Q (some (.ref D)) { s with toks := s.toks + 1 }) : wpAny (model prog w) A (getAttr? (.ref x) "__class__") Q E s := by
  have hf : findObj K D od "__class__" = some (.bind (.builtin "getset_descriptor.__get__") (.builtin "object.__class__")) := gd_findObj (by obtain ⟨cd, hc, _⟩ := any_some hdct; rw [hc]; rfl) ha hn htk
  obtain ⟨hp, g, d, t, os⟩ := s
  have L0 := I.type (M := model prog w)
  have L1 := looks_findIn (M := model prog w) X hga
  have L2 := looks_findIn (M := model prog w) X hgt
  have L3 := looks_find (M := model prog w) X I hf
  have sub : Looks (model prog w) hp (isInstance (.ref x) (.type "BaseException")) true := L0.andThen (looks_subIn X hsub)
  have hx0 : (false && onTheHeap (Value.builtin "BaseException.__getattribute__")) = false := rfl
  have hx2 : (Value.builtin "BaseException.__getattribute__" == Value.builtin "object.__getattribute__") = false := by decide +kernel
  have hx1 : (onTheHeap (Value.ref D) && Value.builtin "BaseException.__getattribute__" == Value.builtin "object.__getattribute__") = false := by rw [hx2]; rfl
  unfold getAttr? getAttrBy? getAttrBy
  refine wpAny_bind (wpAny_mkText (wpAny_bind (wpAny_attempt (wpAny_holding (wpAny_bind (L0.at (wpAny_bind (L1.at ?_))))))))
  show wpAny _ _ (if (onTheHeap (Value.ref D) && Value.builtin "BaseException.__getattribute__" == Value.builtin "object.__getattribute__") = true then _ else _) _ _ _
  rw [hx1, if_neg Bool.false_ne_true]
  unfold getAttrByItsOwn hookBefore
  refine wpAny_bind ?_
  rw [if_pos (show onTheHeap (Value.ref D) = true from rfl)]
  refine L2.at ?_
  refine wpAny_bind (wpAny_attempt (wpAny_holding ?_))
  unfold callGetattribute
  rw [hx0, if_neg Bool.false_ne_true]
  unfold boundAndCalled
  rw [PySem.F.excAttr_ValueError.ga.bind (.ref x)]
  refine wpAny_bind (wpAny_pure ?_)
  show wpAny _ _ (call (.builtin "BaseException.__getattribute__") [.ref x, .str "__class__" t]) _ _ _
  refine wpAny_call (codeAny_call_builtin PySem.F.excAttr_ValueError.ga.plain PySem.F.entry_bexc_ga ?_)
  refine @check_slot (model prog w) _ _ ⟨hp, g, d, t + 1, os⟩ "BaseException.__getattribute__" "BaseException" "__getattribute__" (.ref x) [.str "__class__" t] [] _ (by decide +kernel) (by decide +kernel) sub (PySem.F.args_bexc_ga (.ref x) (.str "__class__" t)) ?_
  unfold Builtin.«object.__getattribute__»
  refine wpAny_bind (wpAny_of_eq (a := ((Value.ref x : Value), [Value.str "__class__" t])) (by first | rfl | (simp only [slotArgs]; rfl)) ?_)
  refine wpAny_bind (wpAny_pure (wpAny_bind (L0.at (wpAny_bind (L3.at ?_)))))
  show wpAny _ _ (holding [Value.builtin "object.__class__"] (call (.builtin "getset_descriptor.__get__") [.builtin "object.__class__", .ref x, .ref D]) >>= ret) _ _ _
  refine wpAny_bind (wpAny_holding (wpAny_call (class_get (s := ⟨hp, g, d, t + 1, os⟩) (ox := ox) (od := od) X I hm ?_)))
  refine wpAny_pure ?_
  show wpAny _ _ (handedOut (.ref D)) _ _ _
  rw [handedOut_of (v := .ref D) rfl]
  first
    | exact wpAny_pure (wpAny_pure h)
    | exact wpAny_pure h
    | exact wpAny_pure (wpAny_bind (wpAny_pure (wpAny_pure h)))
theorem gd_kitx (hga : findIn K (.ref D) "__getattribute__" = some (some (.builtin "BaseException.__getattribute__"))) (hgt : findIn K (.ref D) "__getattr__" = some none) (hsub : subIn K (.ref D) (.type "BaseException") = some true) (hdct : hasDictIn K D = true) (ha : findIn K (.ref D) "__class__" = some (some (.builtin "object.__class__")))
    (hn : specialIn K (.builtin "object.__class__") "__get__" = some (some (.builtin "getset_descriptor.__get__"))) (htk : takesIn K (.builtin "object.__class__") = some true) (hm : mroIn K D (.type "object") = some true) :
    KitX K (.ref x) (.ref D) (fun h => InstAt h x ox D od) where
  ty := fun _ _ _ I => I.type
  it := fun _ _ X _ => by
    obtain ⟨cdD, hcD, _⟩ := any_some hdct
    unfold clsIn at hcD
    split at hcD
    · rename_i c' d' cd' sl' ho
      intro A' Q' E' s' k q
      unfold isType loadHead
      exact wpAny_bind (wpAny_loadPart (k _ _ (X _ _ ho)) (wpAny_pure q))
    · cases hcD
  ne := fun h tp dd its n sl X htp => by
    obtain ⟨cdD, hcD, _⟩ := any_some hdct
    refine Bool.eq_false_iff.mpr fun q => ?_
    have e : D = tp := Value.ref.inj (beq_iff_eq.mp q)
    subst e
    unfold clsIn at hcD
    split at hcD
    · rename_i c' d' cd' sl' ho
      have z := (X _ _ ho).symm.trans htp
      cases z
    · cases hcD
  ca := fun X I k => gd_classE hga hgt hsub hdct ha hn htk hm X I k
end
end PySem.W
namespace Gd
open PySem PySem.Spec PyProof.Rows L2
/-- an exception object that was caught, at a -/
def ExR (cls : Value) (d : Option Addr) (a : Addr) : HO := .ext fun h => ∃ (oe : Obj) (vs : Array Value), h.get? a = some oe ∧ Zc cls d oe ∧ oe.data = .fields vs
theorem exR_ok {P : Program} {w : World} {H : Hp} {h : Heap} {a : Addr} {cls : Value} {d : Option Addr} {oe : Obj} {vs : Array Value} (e : h.get? a = some oe) (z : Zc cls d oe) (dd : oe.data = .fields vs) : ObjOk P w H h a (ExR cls d a) :=
  ⟨⟨oe, vs, e, z, dd⟩, ⟨oe, e⟩, fun _ _ ⟨o, v, q, r⟩ k => ⟨o, v, k o q, r⟩⟩
section
variable {X : Cx} {pins : List (Addr × Obj)} {σ : List (Option V)} {H : Hp} {s : Shared}
/-- what was caught is tracked from now on -/
theorem Inv.trackX {a : Addr} {oe : Obj} {vs : Array Value} {cls : Value} {d : Option Addr} (I : Inv X pins σ H s) (ha : s.heap.get? a = some oe) (hz : Zc cls d oe) (hd : oe.data = .fields vs) (hn : H a = none) (h0 : X.s_0.heap.get? a = none) (nL : a ≠ X.env.locals)
    (np : ∀ p ∈ X.pn ++ pins, p.1 ≠ a) : Inv X pins σ (upd H a (ExR cls d a)) s := by
  refine ⟨I.ok, I.os, I.bare, ⟨I.base.keep, I.base.slot, fun b o e n hx => ?_, I.base.there, fun b xs e => ?_, fun b o u e => ?_, fun b ps e => ?_⟩, I.loc, I.cell, ?_, fun x c e => ?_, fun p hp => ?_, fun b o e => ?_, I.len⟩
  · have hb : b ≠ a := fun z => by rw [z, h0] at e; cases e
    rw [upd_ne hb]
    exact I.base.free b o e n hx
  · have q := I.base.tups b xs e
    rw [upd_ne (ne_of_none q hn)]
    exact q
  · have q := I.base.frzs b o u e
    rw [upd_ne (ne_of_none q hn)]
    exact q
  · obtain ⟨more, q⟩ := I.base.tbls b ps e
    exact ⟨more, by rw [upd_ne (ne_of_none q hn)]; exact q⟩
  · rw [upd_ne nL.symm]
    exact I.free
  · obtain ⟨v, u⟩ := I.cell x c e
    have hc : c ≠ a := fun z => by
      subst z
      obtain ⟨o, e1, e2⟩ := u
      rw [ha] at e1
      cases e1
      rw [hd] at e2
      cases e2
    rw [upd_ne hc]
    exact I.freeC x c e
  · obtain ⟨q1, q2, q3⟩ := I.pin p hp
    exact ⟨q1, by rw [upd_ne (np p hp)]; exact q2, q3⟩
  · by_cases hb : b = a
    · subst hb
      rw [upd_same] at e
      cases e
      exact exR_ok ha hz hd
    · rw [upd_ne hb] at e
      exact (I.hok b o e).stay (fun c u _ q => q) (fun c q => by rw [upd_ne (ne_of_none q hn)]; exact q) fun c xs q => by rw [upd_ne (ne_of_none q hn)]; exact q
end
/-- what the clause 'except c as n: .. ' wishes, where what was caught is kept: slot i is n's -/
def wAsV (K : PySem.W.Frag) (c : Value) (i : Nat) (ts : TS) (Wout : WX) (D : Ends) : WX := fun cls d σ H =>
  ∃ b, PySem.W.exmOne K cls c = some b ∧ (b = true → ∀ a, H a = none → ts { nx := fun σ' H' => D.nx (σ'.set i none) (upd H' a (ExR cls d a)), rt := fun _ _ => False, bk := fun _ _ => False, ct := fun _ _ => False } (σ.set i (some (.ref a))) H) ∧
    (b = false → Wout cls d σ H)
section
variable {X : Cx} {n : Str} {i : Nat} {body : List Stmt} {cn : Str} {cv : Value} {st0 : Stmt} {more : List Stmt} {q1 q2 : Pos} {pos : Pos} {tb : WX → TS} {ts : TS} {Wout : WX}
theorem ps_try_asV (hst : X.stack = X.env :: X.outer) (hfr : X.env.frame = some X.env.locals) (hN : X.N.Nodup) (hi : X.N[i]? = some n) (hk : X.env.kindOf n = some .local) (hex : X.ex = []) (tk : Takes X Wout)
    (hb : ∀ (W : WX) (pn : List (Addr × Obj)) (xe : Value → Shared → Prop), Takes (X.tr pn xe) W → PassesOwn (model X.prog X.w) X.A X.env xe → PSs (X.tr pn xe) body (tb W)) (nm : Names X cn cv)
    (su : ∀ (x : Addr) (ob : Obj) (k : Value) (dd : Option Addr) (pn : List (Addr × Obj)), Zc k dd ob → (∃ fs, ob.data = .fields fs) → PSs (X.suite x ((x, ob) :: pn)) (st0 :: more) ts) :
    PS X (.Try body [.ExceptHandler (some (.Name cn q1)) (some n) (st0 :: more) q2] [] [] pos) fun D σ H => tb (wAsV X.K cv i ts Wout D) D σ H := by
  constructor
  intro pins s σ H D I h
  have ok := I.ok
  have fra : X.A.frames = some (X.env :: X.outer) := ok.frames.trans (congrArg some hst)
  let hs : List ExceptHandler := [.ExceptHandler (some (.Name cn q1)) (some n) (st0 :: more) q2]
  let catch_ : Value → Shared → Prop := fun e s1 => wpAny (model X.prog X.w) X.A (noteFrame e X.env)
    (fun _ s2 => wpAny (model X.prog X.w) X.A (setFlight e none) (fun _ s3 => wpAny (model X.prog X.w) X.A (handleBy e X.env hs) (SP X pins D) X.xe s3) X.xe s2) X.xe s1
  have inn : Takes (X.tr (X.pn ++ pins) catch_) (wAsV X.K cv i ts Wout D) := by
    intro u s1 xx
    obtain ⟨x, B, sI, pins', τ, G, k, dd, rfl, J0, nb, up, sky, na, os, ag, wish⟩ := xx
    have J := J0.ofTry ok
    rw [show (X.tr (X.pn ++ pins) catch_).stack = X.env :: X.outer from hst] at sky
    have nb' : ∀ b o, sI.heap.get? b = some o → b ∉ frs (X.env :: X.outer) → B.get? b = some o := fun b o e hb => nb b o e (by rw [show (X.tr (X.pn ++ pins) catch_).stack = X.env :: X.outer from hst]; exact hb)
    show wpAny _ _ (noteFrame (.ref x) X.env) _ _ _
    refine Sky.land Zc.steady fra hfr sky fun hp lands up1 => ?_
    obtain ⟨ob, fs, gx, zx, dx⟩ := lands.there
    have J1 : Inv X pins τ G { s1 with heap := hp } := J.landed nb lands.1 (up.trans up1) os ag
    have offFrames : x ∉ frs (X.env :: X.outer) := by
      intro hm
      obtain ⟨_, o2, g2, nf⟩ := lands.2.2.1.mem hm
      rw [gx] at g2
      cases g2
      exact nf _ dx
    have xl : x ≠ X.env.locals := by
      rintro rfl
      exact offFrames (List.mem_filterMap.mpr ⟨X.env, List.mem_cons_self, hfr⟩)
    have xf : x ∉ X.fs := by
      intro hm
      obtain ⟨e, he, q⟩ := List.mem_filterMap.mp hm
      exact offFrames (List.mem_filterMap.mpr ⟨e, List.mem_cons_of_mem _ he, q⟩)
    have xB : B.get? x = none := lands.2.1
    have xI : sI.heap.get? x = none := by
      cases q : sI.heap.get? x with
      | none => rfl
      | some o => rw [nb' x o q offFrames] at xB; cases xB
    have x0 : X.s_0.heap.get? x = none := by
      cases q : X.s_0.heap.get? x with
      | none => rfl
      | some o =>
        obtain ⟨o', e'⟩ := J.base.there x o q (by rw [hex]; simp)
        rw [xI] at e'
        cases e'
    have xp : ∀ p ∈ X.pn ++ pins, p.1 ≠ x := fun p hp z => by
      have := (J.pin p hp).1
      rw [z, xI] at this
      cases this
    have S1 := J1.suite gx dx na xl xf
    have lk : PySem.W.Looks (model X.prog X.w) hp (typeOf (.ref x)) k := fun A Q E s2 kp q => wpAny_typeOf_ref (kp _ _ gx) (by rw [zx.1]; exact q)
    obtain ⟨b, eb, yes, no⟩ := wish
    refine wpAny_handleBy_cons (codeAny_handlers_test ?_) (by intro q; cases q)
    have mt := PySem.W.exm_one (M := model X.prog X.w) J1.kIn lk eb
    have ask : ∀ {R E : Value → Shared → Prop}, R cv { s1 with heap := hp } → wpAny (model X.prog X.w) (X.A.mark (some (.ref x))) (eval (.Name cn q1) X.env) R E { s1 with heap := hp } := by
      intro R E q
      obtain ⟨g1, dbg, m1 | ⟨m1, v1, n1⟩⟩ := nm
      · exact ld_glob (X := X.suite x ((x, ob) :: (X.pn ++ pins))) S1 g1 m1 q dbg
      · exact ld_blt (X := X.suite x ((x, ob) :: (X.pn ++ pins))) S1 g1 m1 v1 q n1 dbg
    refine ask (mt.here ?_)
    cases b with
    | false =>
      show wpAny _ X.A (handleBy (.ref x) X.env []) _ _ _
      refine wpAny_handleBy_nil ?_
      obtain ⟨_, _, _, ob2, fs2, T, oT, t2, g2, z2, d2, f1, _⟩ := id lands
      have out : wpAny (model X.prog X.w) X.A (setFlight (.ref x) X.env.frame) (fun _ s4 => wpAny (model X.prog X.w) X.A (throw (.ref x) : Sem Flow) (SP X pins D) X.xe s4) X.xe { s1 with heap := hp } := by
        rw [hfr]
        refine HandSPX.setFlight_upZ lands fun h4 l4 up4 => wpAny_throw (tk _ _ ?_)
        exact ⟨x, B, sI, pins, τ, G, k, dd, rfl, J, nb, (up.trans up1).trans up4, .inr (.inr (by rw [hst]; exact l4)), na, os, ag, no rfl⟩
      unfold PySem.passOn
      refine wpAny_bind (wpAny_field g2 d2 f1 ?_)
      have nN : ¬ ((Value.ref T == Value.none) = true) := by simp
      rw [if_neg nN]
      first
        | exact wpAny_bind out
        | exact wpAny_bind (wpAny_pure (wpAny_bind out))
    | true =>
      refine codeAny_handlers_suite_as (HandSPX.lands_againZ lands fun h4 l4 up4 => ?_)
      obtain ⟨ob4, fs4, g4, z4, d4⟩ := l4.there
      have S4 := (J.landed (s' := { s1 with heap := h4 }) nb l4.1 ((up.trans up1).trans up4) os ag).suite g4 d4 na xl xf
      refine store_ok (X := X.suite x ((x, ob4) :: (X.pn ++ pins))) (v := .ref x) S4 hN hi (.inl hk) rfl (fun s5 S5 => ?_) (.inr hk)
      have run := (su x ob4 k dd (X.pn ++ pins) z4 ⟨_, d4⟩).run [] s5 _ G _ S5 (yes rfl x na)
      refine wpAny_mono run (fun fl s6 hsp => ?_) (fun _ _ z => z.elim)
      cases fl with
      | next =>
        obtain ⟨τ6, G6, S6, q6⟩ := hsp
        obtain ⟨p1, p2, _⟩ := S6.pin (x, ob4) (List.mem_append_left _ List.mem_cons_self)
        exact gone_ok (Inv.trackX (S6.unsuite ok) p1 z4 d4 p2 x0 xl xp) hN hi hk fun s7 J7 => ⟨_, _, J7, q6⟩
      | brk =>
        obtain ⟨τ6, G6, S6, q6⟩ := hsp
        exact q6.elim
      | cont =>
        obtain ⟨τ6, G6, S6, q6⟩ := hsp
        exact q6.elim
      | ret u =>
        obtain ⟨v6, τ6, G6, S6, r6, q6⟩ := hsp
        exact q6.elim
  have ran := (hb (wAsV X.K cv i ts Wout D) (X.pn ++ pins) catch_ inn PassesOwn.looking).run [] s σ H D (I.toTry _) h
  refine wpAny_Try_except (wpAny_mono ran (fun fl s1 hsp => ?_) fun e s1 he => he)
  cases fl with
  | next =>
    obtain ⟨τ, G, J, q⟩ := hsp
    exact wpAny_execs_nil ⟨τ, G, J.ofTry ok, q⟩
  | brk =>
    obtain ⟨τ, G, J, q⟩ := hsp
    exact ⟨τ, G, J.ofTry ok, q⟩
  | cont =>
    obtain ⟨τ, G, J, q⟩ := hsp
    exact ⟨τ, G, J.ofTry ok, q⟩
  | ret u =>
    obtain ⟨v, τ, G, J, r, q⟩ := hsp
    exact ⟨v, τ, G, J.ofTry ok, r, q⟩
end
/-! isinstance(x, C), x.f of such -/
/-- what the class D must say -/
structure ExcV (K : PySem.W.Frag) (D : Addr) : Prop where
  hg : PySem.W.findIn K (.ref D) "__getattribute__" = some (some (.builtin "BaseException.__getattribute__"))
  hk : PySem.W.findIn K (.ref D) "__getattr__" = some none
  hs : PySem.W.subIn K (.ref D) (.type "BaseException") = some true
  hd : PySem.W.hasDictIn K D = true
  ha : PySem.W.findIn K (.ref D) "__class__" = some (some (.builtin "object.__class__"))
  hn : PySem.W.specialIn K (.builtin "object.__class__") "__get__" = some (some (.builtin "getset_descriptor.__get__"))
  ht : PySem.W.takesIn K (.builtin "object.__class__") = some true
  hm : PySem.W.mroIn K D (.type "object") = some true
/-- isinstance(e, C): e was caught, of the class D, with a dict that is tracked -/
def rIsV (K : PySem.W.Frag) : List V → Hp → VK → Prop := fun xs H Q => ∃ (a D C dd : Addr) (fs : List (Str × V)) (b : Bool), xs = [.ref a, .ref C] ∧ H a = some (ExR (.ref D) (some dd) a) ∧ H dd = some (.xd fs) ∧ ExcV K D ∧ PySem.W.kitOne K (.ref D) (.ref C) = some b ∧ Q (.bl b) H
theorem exR_inst {X : Cx} {pins : List (Addr × Obj)} {σ : L2.St} {H : Hp} {s : Shared} {a D dd : Addr} {fs : List (Str × V)} (I : Inv X pins σ H s) (h : H a = some (ExR (.ref D) (some dd) a)) (hd : H dd = some (.xd fs)) :
    ∃ (oe od : Obj) (mA : Str → Option Value), PySem.W.InstAt s.heap a oe D (some od) ∧ (∀ n, PySem.W.lookIn n od = some (mA n)) ∧ ∀ f, RelO (fs.lookup f) (mA f) := by
  obtain ⟨⟨oe, vs, e, z, d⟩, _⟩ := I.hok a _ h
  obtain ⟨mA, hns, hr⟩ := I.hok dd _ hd
  obtain ⟨od, ho, hl⟩ := lookIn_ns hns
  exact ⟨oe, od, mA, ⟨e, z.1, by unfold PySem.W.notCls; rw [d] <;> rfl, by rw [z.2]; exact ho⟩, hl, hr⟩
theorem call_isV {X : Cx} {K : PySem.W.Frag} (hK : X.K = K) : CallR X (.builtin "isinstance") (rIsV K) := by
  subst hK
  intro pins s σ H xs us Q I r h
  obtain ⟨a, D, C, dd, fs, b, rfl, ha, hd, V, e, q⟩ := h
  cases r with
  | cons rx rr =>
    cases rr with
    | cons rt rr =>
      cases rr
      cases rx
      cases rt
      obtain ⟨oe, od, mA, J, _, _⟩ := exR_inst I ha hd
      exact PySem.W.kia_one (PySem.W.gd_kitx V.hg V.hk V.hs V.hd V.ha V.hn V.ht V.hm) I.kIn J e (fun z => nomatch z) fun tk => ⟨.bl b, H, I.kept (t' := tk) fun _ _ z => z, rfl, q⟩
/-- e.f -/
def tXv (K : PySem.W.Frag) (f : Str) (te : TE) : TE := fun σ H Q => te σ H fun y H1 => ∃ (a D dd : Addr) (fs : List (Str × V)) (v : V), y = .ref a ∧ H1 a = some (ExR (.ref D) (some dd) a) ∧ H1 dd = some (.xd fs) ∧ fs.lookup f = some v ∧ ExcV K D ∧ PySem.W.findIn K (.ref D) f = some none ∧ Q v H1
theorem pe_xv {X : Cx} {K : PySem.W.Frag} {e : Expr} {te : TE} {pos : Pos} {f : Str} (hK : X.K = K) (he : PE X e te) (hb : attributeBase e f X.env (eval e X.env) = eval e X.env := by rfl) : PE X (.Attribute e f pos) (tXv K f te) := by
  subst hK
  refine ⟨fun pins s σ H Q I h => ?_⟩
  refine attr_of hb (thn (he.run pins s σ H _ I h) fun u s1 hh => ?_)
  obtain ⟨y, H1, I1, rx, a, D, dd, fs, v, ex, ha, hd, l, V, hno, q⟩ := hh
  subst ex
  obtain rfl : u = Value.ref a := rx
  obtain ⟨oe, od, mA, J, hl, hr⟩ := exR_inst I1 ha hd
  obtain ⟨u, hu, ru⟩ := RelO.some_of (v := v) (o := mA f) (by rw [← l]; exact hr f)
  exact HandSPX.exc_get I1.kIn J V.hg V.hk V.hs (PySem.W.findObj_own V.hd hno rfl (by rw [hl f, hu])) (handed_of ru) ⟨v, H1, I1.tok _, ru, q⟩
end Gd
set_option Elab.async false
set_option linter.all false
set_option maxRecDepth 100000
set_option maxHeartbeats 4000000
set_option autoImplicit false
namespace DC
open PySem L2 Gd LamX
/-! ### what a def makes of a call that it is handed, the heap having grown ahead of the call -/
def TTd2 (Good : Oc → Prop) : (XK → Hp → VK → Prop) → Hp → VK → Prop := fun tl H Q => ∃ (C : Ctx) (n : Nat) (z : Oc), C.inv n H ∧ Good z ∧ (∀ H1, C.R H H1 → C.inv n H1 → ∀ Qc Ec, OutC C n z H1 Qc Ec → tl Ec H1 Qc) ∧
  ∀ r H', C.R H H' → C.inv n H' → Rep C H' r (.d z.said) → Q r H'
theorem e_saidT2 {T : List (Addr × Str)} {C : Ctx} {E : XK} {X : XP} {n : Nat} {ρ : Dv} {t : XK → TE} {P : Nat → DVal → Prop} {Gd : Oc → Prop} (hT : HasT T C)
    (h : ∃ z, Gd z ∧ (∀ (E' : XK) (P' : Nat → DVal → Prop) (X' : XP), (OutD z n P' X') → EJ C E' X' n ρ (t E') P') ∧ P n (.d z.said)) : EJ C E X n ρ (tLam T (TTd2 Gd) t) P := fun σ H Q I e x k => by
  obtain ⟨z, hg, hz, hp⟩ := h
  refine ⟨hT.get I, fun H1 e1 t1 => ?_⟩
  obtain ⟨r1, i1⟩ := hT.ext I e1 t1
  refine ⟨C, n, z, i1, hg, fun H2 r2 i2 Qc Ec o => ?_, fun r H' g i rp => k r (.d z.said) n H' (C.trans r1 g) i rp hp⟩
  cases z with
  | ok d =>
    refine hz Ec (fun n' y => n' = n ∧ y = .d d) (fun _ _ _ _ => False) ⟨rfl, rfl⟩ σ H2 Qc i2 ((e.up r1).up r2) (fun _ _ _ _ _ _ _ _ _ _ _ q => q.elim) fun v y n' H' g i rp ⟨hn, hy⟩ => ?_
    subst hn hy
    exact o v H' g i rp
  | exc cls f tag d =>
    refine hz Ec (fun _ _ => False) (fun n' c f' d' => n' = n ∧ c = cls ∧ f' = f ∧ d' = d) ⟨rfl, rfl, rfl, rfl⟩ σ H2 Qc i2 ((e.up r1).up r2) (fun c f' dd v d' n' H' g i q1 q2 ⟨a0, a1, a2, a3⟩ => ?_) fun v y n' H' g i rp q => q.elim
    subst a0 a1 a2 a3
    exact o v dd H' g i q1 q2
theorem snd_said2 {Ts : List (Addr × Str)} {cm : Nat → Addr} {E : XK} {t : XK → TE} {f : VE} {Gd : Oc → Prop} {tag : Nat → Str → Option Str} (ho : ∀ d, Gd (.ok d)) (hg : ∀ c f tg d, tag c f = some tg → Gd (.exc (cm c) f tg d)) (s : ∀ E', Snd Ts cm E' (t E') f) : Snd Ts cm E (tLam Ts (TTd2 Gd) t) (vSaid tag f) := fun C X n ρ P hT h => by
  unfold vSaid at h
  split at h
  · next d e =>
    exact e_saidT2 hT ⟨.ok d, ho d, fun E' P' X' o => s E' C X' n ρ P' hT (by rw [e]; exact o), h⟩
  · next c x d e =>
    split at h
    · next tg e2 =>
      exact e_saidT2 hT ⟨.exc (cm c) x tg d, hg c x tg d e2, fun E' P' X' o => s E' C X' n ρ P' hT (by rw [e]; exact o), h⟩
    · exact h.elim
  · exact h.elim
/-! ### a fact that stays -/
def factC (C : Ctx) (Φ : Hp → Prop) (hm : ∀ {H H' : Hp}, C.R H H' → Φ H → Φ H') : Ctx where
  vw := C.vw
  inv := fun n H => C.inv n H ∧ Φ H
  R := C.R
  refl := C.refl
  trans := C.trans
  vwm := C.vwm
  sub := C.sub
  mono := C.mono
  new := fun o i h hn => by
    obtain ⟨a, b, c⟩ := C.new o i.1 h hn
    exact ⟨a, ⟨b, hm a i.2⟩, c⟩
  same := fun i s => by
    obtain ⟨a, b⟩ := C.same i.1 s
    exact ⟨a, b, hm a i.2⟩
  fresh := fun i s h e hn => C.fresh i.1 s h e hn
  hid := C.hid
  kept := C.kept
  live := fun i h => C.live i.1 h
/-- a caught exception at a: its class, its field -/
def ΦE (C : Ctx) (D dd a : Addr) (f : Str) (d : PyData) : Hp → Prop := fun H => C.vw H a = some (ExR (.ref D) (some dd) a) ∧ ∃ v, C.vw H dd = some (.xd [(f, v)]) ∧ Da (C.vw H) v d
theorem ΦE_mono {C : Ctx} {D dd a : Addr} {f : Str} {d : PyData} {H H' : Hp} (r : C.R H H') (h : ΦE C D dd a f d H) : ΦE C D dd a f d H' := by
  obtain ⟨h1, v, h2, h3⟩ := h
  exact ⟨C.vwm r _ _ h1, v, C.vwm r _ _ h2, Da.mono (C.vwm r) h3⟩
abbrev excC (C : Ctx) (D dd a : Addr) (f : Str) (d : PyData) : Ctx := factC C (ΦE C D dd a f d) ΦE_mono
theorem five {α : Type} {σ : List α} (h : σ.length = 5) : ∃ a b c d e, σ = [a, b, c, d, e] := by
  match σ, h with
  | [a, b, c, d, e], _ => exact ⟨a, b, c, d, e, rfl⟩
section
variable {C : Ctx} {E : XK} {X : XP} {n : Nat} {ρ : Dv} {K : PySem.W.Frag} {D dd a C1 : Addr} {f tag : Str} {d : PyData} {b : Bool}
def isTV (K : PySem.W.Frag) (C : Addr) : TT := tB (tCB (rIsV K) (tCons (tVar 2) (tCons (tC (.ref C)) tNil)))
def hrdT (K : PySem.W.Frag) (f tag : Str) : TE := tLst (tCons (tTup (tCons (tC (.str tag)) (tCons (tXv K f (tVar 2)) tNil))) tNil)
theorem t_isV {P : Nat → Bool → Prop} (V : ExcV K D) (hk : PySem.W.kitOne K (.ref D) (.ref C1) = some b) (h2 : ρ[2]? = some (some (.h (.ref a)))) (p : P n b) : TJ (excC C D dd a f d) E X n ρ (isTV K C1) P :=
  t_B (e_cb (a_cons (e_var h2 (a_cons (fun _ H Q I _ _ k => k (.ref C1) (.h (.ref C1)) n H (C.refl H) I rfl (a_nil fun H1 vs Q I r k => by
    obtain ⟨v, u, rfl, rv, ru⟩ := repL2 r
    have e1 : v = .ref a := rv
    have e2 : u = .ref C1 := ru
    subst e1 e2
    obtain ⟨I1, h1, v, hd, hv⟩ := I
    exact ⟨a, D, C1, dd, _, b, rfl, C.sub _ _ h1, C.sub _ _ hd, V, hk, k _ _ _ (C.refl _) ⟨I1, h1, v, hd, hv⟩ (.bl b) ⟨b, rfl, p⟩⟩))))))
theorem e_xv {P : Nat → DVal → Prop} (V : ExcV K D) (hf : PySem.W.findIn K (.ref D) f = some none) (h2 : ρ[2]? = some (some (.h (.ref a)))) (p : P n (.d d)) : EJ (excC C D dd a f d) E X n ρ (tXv K f (tVar 2)) P := fun σ H Q I e x k => by
  refine e_var (P := fun n1 x => n1 = n ∧ x = .h (.ref a)) h2 ⟨rfl, rfl⟩ σ H _ I e x fun v y n1 H1 g i r ⟨en, ey⟩ => ?_
  subst en ey
  have e1 : v = .ref a := r
  subst e1
  obtain ⟨I1, h1, v, hd, hv⟩ := i
  exact ⟨a, D, dd, _, v, rfl, C.sub _ _ h1, C.sub _ _ hd, by simp [List.lookup], V, hf, k v (.d d) n1 H1 g ⟨I1, h1, v, hd, hv⟩ hv p⟩
theorem e_hrd {P : Nat → DVal → Prop} (V : ExcV K D) (hf : PySem.W.findIn K (.ref D) f = some none) (h2 : ρ[2]? = some (some (.h (.ref a)))) (p : P n (.d (.list [.tuple [.str tag, d]]))) : EJ (excC C D dd a f d) E X n ρ (hrdT K f tag) P :=
  e_lst (a_cons (e_tup (a_cons (e_str (a_cons (e_xv V hf h2 (a_nil ⟨[.str tag, d], rfl, Nat.le_of_ble_eq_true rfl, a_nil ⟨[.tuple [.str tag, d]], rfl, Nat.le_of_ble_eq_true rfl, p⟩⟩)))))))
theorem e_isNh {v : V} {P : Nat → DVal → Prop} {ta tb : TE} (hv : v ≠ .non) (h : EJ C E X n ρ ta fun n1 x => x = .h v ∧ EJ C E X n1 ρ tb fun n2 y => y = .d .none ∧ P n2 (.d (.bool false))) : EJ C E X n ρ (tOp (fun x y H Q => y = .non ∧ Q (.bl (decide (x = .non))) H) ta tb) P :=
  e_two (h.imp fun n1 x ⟨ex, q⟩ => q.imp fun n2 y ⟨ey, p⟩ => by
    subst ex ey
    intro H2 v' u Q I r1 r2 k
    have e : u = .non := by
      cases (show Da (C.vw H2) u .none from r2)
      rfl
    have e1 : v' = v := r1
    subst e1
    refine ⟨e, ?_⟩
    rw [decide_eq_false hv]
    exact k _ _ _ (C.refl _) I (.bl _) p)
end
/-- what stands behind the try: three classes -/
def rest3 (K : PySem.W.Frag) (C1 C2 C3 : Addr) (f1 t1 f2 t2 f3 t3 : Str) : TS :=
  tSeq (tIfS (tTest (tOp (fun x y H Q => y = .non ∧ Q (.bl (decide (x = .non))) H) (tVar 2) (tC .non))) (tRet (tLst (tCons (tVar 1) tNil))) tNext)
  (tSeq (tAsg (tIf (isTV K C1) (hrdT K f1 t1) (tLst tNil)) (gName 4))
  (tSeq (tAsg (tIf (isTV K C2) (tOp rCat (tVar 4) (hrdT K f2 t2)) (tVar 4)) (gName 4))
  (tSeq (tAsg (tIf (isTV K C3) (tOp rCat (tVar 4) (hrdT K f3 t3)) (tVar 4)) (gName 4))
  (tRet (tIf (tTest (tOp rEq (tCB (fun xs H Q => ∃ p ys, xs = [.ref p] ∧ (SqL K H p ys ∨ SqT K H p ys) ∧ Q (.int ys.length) H) (tCons (tVar 4) tNil)) (tC (.int 1)))) (tOp (rIxL K) (tVar 4) (tC (.int 0))) (tTup (tCons (tC (.str "other")) tNil)))))))
section
variable {C : Ctx} {E : XK} {X : XP} {n : Nat} {K : PySem.W.Frag} {C1 C2 C3 D dd a : Addr} {f1 t1 f2 t2 f3 t3 f tag : Str} {d : PyData} {g : V}
def pRt (n : Nat) (x : DVal) : Post := ⟨fun _ _ => False, fun n' y => n' = n ∧ y = x, fun _ _ => False, fun _ _ => False⟩
theorem rest3_ok : SJ C E X n [some (.h g), some (.d d), some (.d .none), none, none] (rest3 K C1 C2 C3 f1 t1 f2 t2 f3 t3) (pRt n (.d (.list [d]))) := by
  refine s_seq (s_if (t_test (e_isN (e_var rfl (e_non ⟨.none, rfl, rfl, true, rfl, ?_⟩)))))
  rw [if_pos rfl]
  exact s_ret (e_lst (a_cons (e_var rfl (a_nil ⟨[d], rfl, Nat.le_of_ble_eq_true rfl, rfl, rfl⟩))))
theorem rest3_end {ρ : Dv} {x : PyData} (h4 : ρ[4]? = some (some (.d (.list [x])))) : SJ C E X n ρ (tRet (tIf (tTest (tOp rEq (tCB (fun xs H Q => ∃ p ys, xs = [.ref p] ∧ (SqL K H p ys ∨ SqT K H p ys) ∧ Q (.int ys.length) H) (tCons (tVar 4) tNil)) (tC (.int 1)))) (tOp (rIxL K) (tVar 4) (tC (.int 0))) (tTup (tCons (tC (.str "other")) tNil)))) (pRt n (.d x)) := by
  refine s_ret (e_if (t_test (e_eq (e_len (e_var h4 ⟨[x], rfl, e_int ⟨_, _, true, rfl, rfl, rfl, true, rfl, ?_⟩⟩)))))
  rw [if_pos rfl]
  exact e_ixL (e_var h4 ⟨[x], rfl, e_int ⟨0, x, rfl, rfl, rfl, rfl⟩⟩)
theorem rest3_exc {b1 b2 b3 : Bool} (V : ExcV K D) (k1 : PySem.W.kitOne K (.ref D) (.ref C1) = some b1) (k2 : PySem.W.kitOne K (.ref D) (.ref C2) = some b2) (k3 : PySem.W.kitOne K (.ref D) (.ref C3) = some b3) (hf : PySem.W.findIn K (.ref D) f = some none)
    (h : (b1 = true ∧ b2 = false ∧ b3 = false ∧ f1 = f ∧ t1 = tag) ∨ (b1 = false ∧ b2 = true ∧ b3 = false ∧ f2 = f ∧ t2 = tag) ∨ (b1 = false ∧ b2 = false ∧ b3 = true ∧ f3 = f ∧ t3 = tag)) :
    SJ (excC C D dd a f d) E X n [none, none, some (.h (.ref a)), none, none] (rest3 K C1 C2 C3 f1 t1 f2 t2 f3 t3) (pRt n (.d (.tuple [.str tag, d]))) := by
  refine s_seq (s_if (t_test (e_isNh (v := .ref a) (by intro z; cases z) (e_var rfl ⟨rfl, e_non ⟨rfl, false, rfl, ?_⟩⟩))))
  rw [if_neg (by decide)]
  refine s_next (s_seq (s_asg (e_if (t_isV V k1 rfl ?_))))
  rcases h with ⟨rfl, rfl, rfl, rfl, rfl⟩ | ⟨rfl, rfl, rfl, rfl, rfl⟩ | ⟨rfl, rfl, rfl, rfl, rfl⟩
  · rw [if_pos rfl]
    refine e_hrd V hf rfl (s_seq (s_asg (e_if (t_isV V k2 rfl ?_))))
    rw [if_neg (by decide)]
    refine e_var rfl (s_seq (s_asg (e_if (t_isV V k3 rfl ?_))))
    rw [if_neg (by decide)]
    exact e_var rfl (rest3_end rfl)
  · rw [if_neg (by decide)]
    refine e_lst (a_nil ⟨[], rfl, by decide, s_seq (s_asg (e_if (t_isV V k2 rfl ?_)))⟩)
    rw [if_pos rfl]
    refine e_cat (e_var rfl ⟨[], rfl, e_hrd V hf rfl ⟨_, rfl, Nat.le_of_ble_eq_true rfl, s_seq (s_asg (e_if (t_isV V k3 rfl ?_)))⟩⟩)
    rw [if_neg (by decide)]
    exact e_var rfl (rest3_end rfl)
  · rw [if_neg (by decide)]
    refine e_lst (a_nil ⟨[], rfl, by decide, s_seq (s_asg (e_if (t_isV V k2 rfl ?_)))⟩)
    rw [if_neg (by decide)]
    refine e_var rfl (s_seq (s_asg (e_if (t_isV V k3 rfl ?_))))
    rw [if_pos rfl]
    exact e_cat (e_var rfl ⟨[], rfl, e_hrd V hf rfl ⟨_, rfl, Nat.le_of_ble_eq_true rfl, rest3_end rfl⟩⟩)
end
end DC
set_option Elab.async false
set_option linter.all false
set_option maxRecDepth 100000
set_option maxHeartbeats 4000000
namespace HT
open PySem PySem.Spec PyProof.Rows
section
variable {prog : Program} {w : World} {A : Around} {E : Value → Shared → Prop} {s : Shared}
theorem places_rev (n : Nat) : Builtin.Slice.slicePlaces ((n : Int) - 1) (-1) (-1) = n := by
  unfold Builtin.Slice.slicePlaces
  rw [if_neg (by decide)]
  by_cases h : (n : Int) - 1 > -1
  · rw [if_pos h]
    have : ((n : Int) - 1 - -1 - 1) / (- -1) + 1 = (n : Int) := by
      rw [show (- -1 : Int) = 1 by decide, Int.ediv_one]
      omega
    rw [this]
    rfl
  · rw [if_neg h]
    have : n = 0 := by omega
    subst this
    rfl
theorem sliceApplied_rev {sl : Addr} {vl vu vs : Value} {n : Nat} {Q : Int × Int × Nat → Shared → Prop} (hs : s.heap.IsSliceOf sl vl vu vs) (pl : IsPart vl none) (pu : IsPart vu none) (ps : IsPart vs (some (-1)))
    (h : Q ((n : Int) - 1, -1, n) s) : wpAny (model prog w) A (Builtin.Slice.sliceApplied (.ref sl) (pure (n : Int))) Q E s := by
  obtain ⟨os, hos, hcs, hds⟩ := id hs
  unfold Builtin.Slice.sliceApplied Builtin.Slice.sliceFields
  refine wpAny_bind (wpAny_bind (wpAny_field hos hds (x := vl) rfl (wpAny_bind (wpAny_field hos hds (x := vu) rfl (wpAny_bind (wpAny_field hos hds (x := vs) rfl (wpAny_pure ?_)))))))
  refine wpAny_bind (slicePart_ ps ?_)
  show wpAny _ _ (if ((-1 : Int) == 0) = true then _ else _) _ _ s
  rw [if_neg (by decide)]
  refine wpAny_bind (slicePart_ pl (wpAny_bind (slicePart_ pu (wpAny_bind (wpAny_pure ?_)))))
  show wpAny _ _ (match Builtin.Slice.sliceAdjust none none (-1) (n : Int) with | (lo, hi) => pure (lo, (-1 : Int), Builtin.Slice.slicePlaces lo hi (-1))) _ _ s
  have e : Builtin.Slice.sliceAdjust none none (-1) (n : Int) = ((n : Int) - 1, -1) := rfl
  rw [e]
  show wpAny _ _ (pure ((n : Int) - 1, (-1 : Int), Builtin.Slice.slicePlaces ((n : Int) - 1) (-1) (-1))) _ _ s
  rw [places_rev]
  exact wpAny_pure h
theorem fm_congr {α β : Type} {f g : α → Option β} : ∀ {l : List α}, (∀ m ∈ l, f m = g m) → l.filterMap f = l.filterMap g
  | [], _ => rfl
  | a :: l, h => by
    rw [List.filterMap_cons, List.filterMap_cons, h a List.mem_cons_self, fm_congr fun m hm => h m (List.mem_cons_of_mem _ hm)]
theorem pick_rev (xs : Array Value) : ((List.range xs.size).filterMap fun (m : Nat) => xs[((xs.size : Int) - 1 + (m : Int) * -1).toNat]?).toArray = xs.toList.reverse.toArray := by
  have h := PySem.W.krv_all xs
  have e : (List.range xs.size).filterMap (fun (m : Nat) => xs[((xs.size : Int) - 1 + (m : Int) * -1).toNat]?) = ((List.range xs.size).map fun k => xs.size - 1 - k).filterMap (xs[·]?) := by
    rw [List.filterMap_map]
    refine fm_congr fun m hm => ?_
    have := List.mem_range.mp hm
    show xs[((xs.size : Int) - 1 + (m : Int) * -1).toNat]? = xs[xs.size - 1 - m]?
    rw [show ((xs.size : Int) - 1 + (m : Int) * -1).toNat = xs.size - 1 - m by omega]
  rw [e, PySem.W.krv_range, List.filterMap_reverse, h]
theorem getItem_tuple_rev {t sl : Addr} {items : Array Value} {vl vu vs : Value} {Q : Value → Shared → Prop} (ht : IsTup s.heap t items) (hs : s.heap.IsSliceOf sl vl vu vs) (pl : IsPart vl none) (pu : IsPart vu none) (ps : IsPart vs (some (-1)))
    (h : Q (.ref s.heap.objs.size) { s with heap := s.heap.push { cls := .type "tuple", data := .seq items.toList.reverse.toArray } })
    (hsz : items.size ≤ sizeLine) : wpAny (model prog w) A (getItem (.ref t) (.ref sl)) Q E s := by
  have htake : sizeOk (.seq items.toList.reverse.toArray) := by
    show items.toList.reverse.toArray.size ≤ sizeLine
    rw [List.size_toArray, List.length_reverse, Array.length_toList]
    exact hsz
  obtain ⟨os, hos, hcs, hds⟩ := id hs
  have hTs : s.TypeIs (.ref sl) "slice" := ⟨os, hos, hcs⟩
  unfold getItem
  try with_reducible refine wpAny_holding ?_
  first | refine wpAny_bind (wpAny_pure ?_) | skip
  refine wpAny_bind (wpAny_sequenceKey ht.typeIs (by decide) ?_)
  refine wpAny_bind (wpAny_callSpecial?_slot (name := Str.ofString "__getitem__") ht.typeIs PyProof.Rows.slot_tuple_getitem
    (wpAny_call_entry PyProof.Rows.slot_tuple_getitem ht.typeIs entry_tuple_getitem ?_ (args_tuple_getitem _ _)))
  show wpAny _ _ (Builtin.Tuple.tupleItemsOf (.ref t) >>= _) _ _ s
  refine wpAny_bind (tupleItemsOf_ ht ?_)
  refine wpAny_bind (wpAny_typeOf hTs ?_)
  rw [if_pos (by decide)]
  refine wpAny_bind (sliceApplied_rev (n := items.size) hs pl pu ps ?_)
  have hno : ¬ ((((items.size : Int) - 1) == 0 && (-1 : Int) == 1 && items.size == items.size) = true) := by
    intro q
    rw [Bool.and_eq_true, Bool.and_eq_true] at q
    exact absurd q.1.2 (by decide)
  show wpAny _ _ (if (((items.size : Int) - 1) == 0 && (-1 : Int) == 1 && items.size == items.size) = true then _ else _) _ _ s
  rw [if_neg hno, pick_rev]
  first
    | exact wpAny_bind (m := Builtin.Tuple.tupleExact _) (wpAny_newObj_type (wpAny_pure ⟨_, rfl, wpAny_pure h⟩) htake)
    | exact wpAny_bind (m := Builtin.Tuple.tupleExact _) (wpAny_newObj_type (wpAny_bind (wpAny_pure (wpAny_pure ⟨_, rfl, wpAny_pure h⟩))) htake)
    | exact wpAny_bind (wpAny_bind (m := Builtin.Tuple.tupleExact _) (wpAny_newObj_type (wpAny_pure (wpAny_pure ⟨_, rfl, wpAny_pure h⟩)) htake))
    | exact wpAny_bind (wpAny_bind (m := Builtin.Tuple.tupleExact _) (wpAny_newObj_type (wpAny_pure ⟨_, rfl, wpAny_pure h⟩) htake))
end
end HT
namespace Gd
open PySem PySem.Spec PyProof.Rows L2
/-! ### t[::-1] -/
def tRevT (K : PySem.W.Frag) (te : TE) : TE := fun σ H Q => te σ H fun x H1 => ∃ a xs, x = .ref a ∧ SqT K H1 a xs ∧ ∀ p, H1 p = none → Q (.ref p) (upd H1 p (.tup xs.reverse))
theorem pe_revT {X : Cx} {K : PySem.W.Frag} {e : Expr} {te : TE} {k : Nat} {p1 p2 p3 pos : Pos} (hK : X.K = K) (he : PE X e te) : PE X (.Subscript e (.Slice none none (some (.UnaryOp .USub (.Constant (.int 1) k p1) p2)) p3) pos) (tRevT K te) := by
  subst hK
  refine ⟨fun pins s σ H Q I h => ?_⟩
  refine Subscript_ (thn (he.run pins s σ H _ I h) fun v s1 ⟨x, H1, I1, r1, q1⟩ => ?_)
  obtain ⟨a, xs, ex, hx, q⟩ := q1
  subst ex
  cases r1
  have hst : PO X (some (.UnaryOp .USub (.Constant (.int 1) k p1) p2)) (tPart (tUn (rU fun i => .int (-i)) (tC (.int 1)))) := po_some (pe_un un_neg pe_int)
  refine wpAny_Slice (thn (po_none.run pins s1 σ H1 (fun o H2 => o = none ∧ H2 = H1) I1 ⟨rfl, rfl⟩) fun vl s2 ⟨l, H2, I2, pl, el, e2⟩ => ?_)
  subst el e2
  refine thn (po_none.run pins s2 σ H2 (fun o H3 => o = none ∧ H3 = H2) I2 ⟨rfl, rfl⟩) fun vu s3 ⟨u, H3, I3, pu, eu, e3⟩ => ?_
  subst eu e3
  refine thn (hst.run pins s3 σ H3 (fun o H4 => o = some (-1) ∧ H4 = H3) I3 ⟨1, rfl, -1, rfl, rfl, rfl⟩) fun vs s4 ⟨o, H4, I4, ps, eo, e4⟩ => ?_
  subst eo e4
  have I5 : Inv X pins σ H4 { s4 with heap := s4.heap.push { cls := .type "slice", data := .fields #[vl, vu, vs] } } := I4.kept (t' := s4.toks) fun b ob q => Heap.get?_push_of_some _ q
  obtain ⟨its, r, ht, hz⟩ := I5.tuple hx
  have hlen := r.length
  show wpAny (model X.prog X.w) X.A (subscriptTail e (.Slice none none (some (.UnaryOp .USub (.Constant (.int 1) k p1) p2)) p3) (.ref a) (.ref s4.heap.objs.size)) (EP X pins σ Q) X.xe { s4 with heap := s4.heap.push { cls := .type "slice", data := .fields #[vl, vu, vs] } }
  refine tail_any (ops := [.ref a, .ref s4.heap.objs.size]) ht.typeIs (PyProof.Rows.slot_tuple_getitem.lookup) ?_ (by with_unfolding_all rfl)
  refine HT.getItem_tuple_rev ht (Heap.IsSliceOf.new _ vl vu vs) pl pu ps ?_ (by rw [List.size_toArray]; omega)
  refine ⟨.ref _, _, I5.laid (t' := s4.toks) (o := .tup xs.reverse) (fun b ob q => Heap.get?_push_of_some _ q) (Nat.le_refl _) ?_, rfl, q _ (I5.hok.fresh (Nat.le_refl _))⟩
  exact ⟨by rw [List.length_reverse]; exact hz, _, r.reverse, IsTup.new _ _⟩
end Gd
set_option Elab.async false
set_option linter.all false
set_option maxRecDepth 100000
set_option maxHeartbeats 4000000
set_option autoImplicit false
namespace DC
open PySem L2 Gd LamX
section
variable {Ts : List (Addr × Str)} {cm : Nat → Addr} {E : XK} {K : PySem.W.Frag}
/-! #### t[::-1] -/
theorem dal_rev {G : Hp} : ∀ {xs : List V} {ds : List PyData}, DaL G xs ds → DaL G xs.reverse ds.reverse
  | _, _, .nil => .nil
  | _, _, .cons h r => by
    rw [List.reverse_cons, List.reverse_cons]
    exact dal_app (dal_rev r) (.cons h .nil)
def vRevT (a : VE) : VE := fun ρ => (a ρ).bind fun x => asT x fun ds => .ret (.d (.tuple ds.reverse))
@[simp] theorem vRevT_c (a : VE) (o : Option DVal) (ρ : Dv) : vRevT a (o :: ρ) = (a (o :: ρ)).bind fun x => asT x fun ds => .ret (.d (.tuple ds.reverse)) := rfl
theorem e_revT {C : Ctx} {X : XP} {n : Nat} {ρ : Dv} {P : Nat → DVal → Prop} {ta : TE} (h : EJ C E X n ρ ta fun n1 x => ∃ ds, x = .d (.tuple ds) ∧ P n1 (.d (.tuple ds.reverse))) : EJ C E X n ρ (tRevT K ta) P := fun σ H Q I e x k =>
  h σ H _ I e x fun v y n1 H1 g i r ⟨ds, ey, p⟩ => by
    subst ey
    obtain ⟨a, xs, rfl, ha, hx⟩ := da_tuple r
    refine ⟨a, xs, rfl, SqT.of (C.sub _ _ ha), fun q hq => ?_⟩
    obtain ⟨a', b', c'⟩ := C.new (.tup xs.reverse) i hq
    exact k _ _ n1 _ (C.trans g a') b' (Rep.tup c' (dal_rev (DaL.mono (C.vwm a') hx))) p
theorem snd_revT {ta : TE} {a : VE} (s : Snd Ts cm E ta a) : Snd Ts cm E (tRevT K ta) (vRevT a) := fun C X n ρ P hT h => e_revT (s.bind hT h fun n1 x q => asT_x q)
/-! #### a new list of one's own out of two -/
def fCat (a b : VE) : VF := fun ρ => (a ρ).bind fun x => asL x fun ds => (b ρ).bind fun y => asL y fun es => need (decide (ds.length + es.length ≤ 5000)) (.ret (ds ++ es))
@[simp] theorem fCat_c (a b : VE) (o : Option DVal) (ρ : Dv) : fCat a b (o :: ρ) = (a (o :: ρ)).bind fun x => asL x fun ds => (b (o :: ρ)).bind fun y => asL y fun es => need (decide (ds.length + es.length ≤ 5000)) (.ret (ds ++ es)) := rfl
theorem snf_cat {ta tb : TE} {a b : VE} (s1 : Snd Ts cm E ta a) (s2 : Snd Ts cm E tb b) : SndF Ts cm E (tOp rCat ta tb) (fCat a b) := fun C X n ρ P hT h σ H Q I e x k =>
  (s1 C X n ρ _ hT (T.wp_bind.mp h)) σ H _ I e x fun v y n1 H1 g1 i1 r1 q => by
    obtain ⟨ds, ey, q⟩ := asL_x q
    subst ey
    refine (s2 C X n1 ρ _ hT (T.wp_bind.mp q)) σ H1 _ i1 (e.up g1) (x.up g1) fun u z n2 H2 g2 i2 r2 q => ?_
    obtain ⟨es, ez, q⟩ := asL_x q
    subst ez
    obtain ⟨hl, q⟩ := need_x q
    have hl := of_decide_eq_true hl
    obtain ⟨a, xs, rfl, ha, hx⟩ := da_list r1
    obtain ⟨b, ys, rfl, hb, hy⟩ := da_list r2
    have hx' := DaL.mono (C.vwm g2) hx
    refine ⟨a, b, xs, ys, rfl, rfl, C.sub _ _ (C.vwm g2 _ _ ha), C.sub _ _ hb, ?_, fun p hp => ?_⟩
    · rw [hx.length, hy.length, sizeLine_eq]
      exact Nat.le_trans hl (by decide)
    · obtain ⟨a1, a2⟩ := ef_new (vs := xs ++ ys) i2 hp
      exact k p (xs ++ ys) (ds ++ es) n2 _ upd_same (by rw [a1]; exact C.trans g1 g2) (by rw [a1]; exact i2) a2 (by rw [a1]; exact dal_app hx' hy) q
end
end DC
set_option Elab.async false
set_option linter.all false
set_option maxRecDepth 100000
set_option maxHeartbeats 4000000
namespace K13
open PySem L2 Gd PySem.ExG DC CpComb LamX RZ
set_option exponentiation.threshold 10000
def top (i : Nat) : Stmt := PySem.Challenge.pw_oftenenough_k13_days_by_parts.main.body.getD i (.Pass ⟨0, 0, 0, 0⟩)
abbrev s_is_whole : Stmt := top 11
abbrev s_is_between : Stmt := top 12
abbrev s_is_gap : Stmt := top 13
abbrev s_need_plan : Stmt := top 14
abbrev s_need_number : Stmt := top 15
abbrev s_is_part : Stmt := top 19
abbrev s_do_meet : Stmt := top 20
abbrev s_are_parts : Stmt := top 21
abbrev s_need_parts : Stmt := top 22
abbrev s_need_day_number : Stmt := top 23
abbrev s_come_on : Stmt := top 24
abbrev s_day_by : Stmt := top 25
abbrev s_next_by : Stmt := top 26
abbrev s_row_by : Stmt := top 27
abbrev s_law_begun : Stmt := top 29
abbrev s_law_draw : Stmt := top 30
abbrev s_law_of : Stmt := top 31
abbrev s_law_go : Stmt := top 32
abbrev s_law_start : Stmt := top 33
abbrev s_law_said : Stmt := top 34
abbrev s_law_common : Stmt := top 35
abbrev s_law_meet : Stmt := top 36
abbrev s_law_made : Stmt := top 39
abbrev s_law_day : Stmt := top 40
abbrev s_law_days_right : Stmt := top 41
abbrev s_law_row_right : Stmt := top 42
abbrev s_law_refused_right : Stmt := top 43
abbrev s_law : Stmt := top 44
structure Tx (pr : Program) (K : PySem.W.Frag) (mg : Str → Option Value) (t0 t1 t2 t3 t4 : Tok) (CP fP CN fN CR fR : Addr) : Prop where
  n_all : mg "all" = none
  n_any : mg "any" = none
  n_bool : mg "bool" = none
  n_enumerate : mg "enumerate" = none
  n_int : mg "int" = none
  n_isinstance : mg "isinstance" = none
  n_len : mg "len" = none
  n_list : mg "list" = none
  n_min : mg "min" = none
  n_range : mg "range" = none
  n_repr : mg "repr" = none
  n_tuple : mg "tuple" = none
  n_zip : mg "zip" = none
  gcd : mg "gcd" = some (.builtin "math.gcd")
  comb : mg "combinations" = some (.type "itertools.combinations")
  g_MOST_HANDS : mg "MOST_HANDS" = some (.int (3) t0)
  g_MOST_THINGS : mg "MOST_THINGS" = some (.int (8) t1)
  g_MOST_GAP : mg "MOST_GAP" = some (.int (10 ^ 30) t2)
  g_MOST_DAY : mg "MOST_DAY" = some (.int (10 ^ 30) t3)
  g_MOST_ROW : mg "MOST_ROW" = some (.int (1000) t4)
  ex_BadPlan : ExTxt pr K mg "BadPlan" "place" "this is no plan" CP fP
  ex_BadNumber : ExTxt pr K mg "BadNumber" "value" "this is no number that can stand here" CN fN
  ex_BadParts : ExTxt pr K mg "BadParts" "value" "these are no parts of the plan" CR fR
  a_is_whole : ∃ f fd, At K mg "is_whole" s_is_whole ["value"] f fd
  a_is_between : ∃ f fd, At K mg "is_between" s_is_between ["value", "low", "high"] f fd
  a_is_gap : ∃ f fd, At K mg "is_gap" s_is_gap ["value"] f fd
  a_need_plan : ∃ f fd, At K mg "need_plan" s_need_plan ["thing"] f fd
  a_need_number : ∃ f fd, At K mg "need_number" s_need_number ["gaps", "number"] f fd
  a_is_part : ∃ f fd, At K mg "is_part" s_is_part ["hands", "gap", "value"] f fd
  a_do_meet : ∃ f fd, At K mg "do_meet" s_do_meet ["one", "other"] f fd
  a_are_parts : ∃ f fd, At K mg "are_parts" s_are_parts ["plan", "value"] f fd
  a_need_parts : ∃ f fd, At K mg "need_parts" s_need_parts ["plan", "parts"] f fd
  a_need_day_number : ∃ f fd, At K mg "need_day_number" s_need_day_number ["day"] f fd
  a_come_on : ∃ f fd, At K mg "come_on" s_come_on ["parts", "day"] f fd
  a_day_by : ∃ f fd, At K mg "day_by" s_day_by ["plan", "parts", "day"] f fd
  a_next_by : ∃ f fd, At K mg "next_by" s_next_by ["plan", "parts", "number", "day"] f fd
  a_row_by : ∃ f fd, At K mg "row_by" s_row_by ["plan", "parts", "many"] f fd
  a_law_begun : ∃ f fd, At K mg "_law_begun" s_law_begun ["script", "k"] f fd
  a_law_draw : ∃ f fd, At K mg "_law_draw" s_law_draw ["m", "many"] f fd
  a_law_of : ∃ f fd, At K mg "_law_of" s_law_of ["m", "some"] f fd
  a_law_go : ∃ f fd, At K mg "_law_go" s_law_go ["frame", "ages", "lot"] f fd
  a_law_start : ∃ f fd, At K mg "_law_start" s_law_start ["frame"] f fd
  a_law_said : ∃ f fd, At K mg "_law_said" s_law_said ["call"] f fd
  a_law_common : ∃ f fd, At K mg "_law_common" s_law_common ["near", "far"] f fd
  a_law_meet : ∃ f fd, At K mg "_law_meet" s_law_meet ["near", "far"] f fd
  a_law_made : ∃ f fd, At K mg "_law_made" s_law_made ["m"] f fd
  a_law_day : ∃ f fd, At K mg "_law_day" s_law_day ["sheet", "spot"] f fd
  a_law_days_right : ∃ f fd, At K mg "_law_days_right" s_law_days_right ["m", "frame", "sheet"] f fd
  a_law_row_right : ∃ f fd, At K mg "_law_row_right" s_law_row_right ["m", "frame", "sheet"] f fd
  a_law_refused_right : ∃ f fd, At K mg "_law_refused_right" s_law_refused_right ["frame", "sheet"] f fd
def cmS (CP CN CR : Addr) : Nat → Addr := fun n => match n with
  | 0 => CP
  | 1 => CN
  | _ => CR
def tagS : Nat → Str → Option Str := fun c f => match c with
  | 0 => if f = "place" then some "plan" else none
  | 1 => if f = "value" then some "number" else none
  | 2 => if f = "value" then some "parts" else none
  | _ => none
def GdS (CP CN CR : Addr) : Oc → Prop
  | .ok _ => True
  | .exc c f tag _ => (c = CP ∧ f = "place" ∧ tag = "plan") ∨ (c = CN ∧ f = "value" ∧ tag = "number") ∨ (c = CR ∧ f = "value" ∧ tag = "parts")
section
variable {CP CN CR : Addr}
theorem gdS_ok (d : PyData) : GdS CP CN CR (.ok d) := trivial
theorem gdS_exc (c : Nat) (f tg : Str) (d : PyData) (h : tagS c f = some tg) : GdS CP CN CR (.exc (cmS CP CN CR c) f tg d) := by
  unfold tagS at h
  split at h
  · split at h
    · next e => subst e; cases h; exact .inl ⟨rfl, rfl, rfl⟩
    · cases h
  · split at h
    · next e => subst e; cases h; exact .inr (.inl ⟨rfl, rfl, rfl⟩)
    · cases h
  · split at h
    · next e => subst e; cases h; exact .inr (.inr (⟨rfl, rfl, rfl⟩))
    · cases h
  · cases h
end
structure Apart (K : PySem.W.Frag) (mg : Str → Option Value) (CT CP CN CR : Addr) : Prop where
  gT : mg "TurnError" = some (.ref CT)
  e_0 : PySem.W.exmOne K (.ref CP) (.ref CT) = some true
  v_0 : ExcV K CP
  k_0_0 : PySem.W.kitOne K (.ref CP) (.ref CP) = some true
  k_0_1 : PySem.W.kitOne K (.ref CP) (.ref CN) = some false
  k_0_2 : PySem.W.kitOne K (.ref CP) (.ref CR) = some false
  e_1 : PySem.W.exmOne K (.ref CN) (.ref CT) = some true
  v_1 : ExcV K CN
  k_1_0 : PySem.W.kitOne K (.ref CN) (.ref CP) = some false
  k_1_1 : PySem.W.kitOne K (.ref CN) (.ref CN) = some true
  k_1_2 : PySem.W.kitOne K (.ref CN) (.ref CR) = some false
  e_2 : PySem.W.exmOne K (.ref CR) (.ref CT) = some true
  v_2 : ExcV K CR
  k_2_0 : PySem.W.kitOne K (.ref CR) (.ref CP) = some false
  k_2_1 : PySem.W.kitOne K (.ref CR) (.ref CN) = some false
  k_2_2 : PySem.W.kitOne K (.ref CR) (.ref CR) = some true
  ok : True
theorem sc_law_said : FnScope ["call", "found", "error", "e", "heard"] ["call"] (defScope s_law_said) := ⟨rfl, rfl, rfl, by decide +kernel, rfl, by decide +kernel, by decide +kernel⟩
theorem said_gives {X : Cx} {g : Addr} {cdv : Value} {q : Str} {t0 t1 t2 t3 t4 : Tok} {CP fP CN fN CR fR : Addr} {CT : Addr} (T : Tx X.prog X.K X.mg t0 t1 t2 t3 t4 CP fP CN fN CR fR) (ap : Apart X.K X.mg CT CP CN CR) :
    GivesTo X ["call", "found", "error", "e", "heard"] "_law_said" (defScope s_law_said) g cdv (defBody s_law_said) "call" q (TTd2 (GdS CP CN CR)) := by
  intro f c' s H Q tl act hc h
  obtain ⟨C, n, z, I, gz, hz, kq⟩ := h
  have nd := sc_law_said.nd
  refine ⟨_, pss_cons (ps_asg (pe_tup (pa_cons pe_non (pa_cons pe_non pa_nil))) (pg_tup (by rfl) (pgs_cons (pg_name (i := 1) nd rfl (Or.inl rfl)) (pgs_cons (pg_name (i := 2) nd rfl (Or.inl rfl)) pgs_nil))))
    (pss_cons (ps_try_asV (X := (cxOf C8.CX0 X.prog X.w X.K X.mg X.base ["call", "found", "error", "e", "heard"] "_law_said" (defScope s_law_said) g cdv X.A X.stack s H C8.E0).nox) (i := 3) (n := "e")
        (tb := fun W D σ H => ∃ Ech : XK, (∀ cls d σ' H', Ech cls d H' → σ'.length = 5 → W cls d σ' H') ∧ σ[0]? = some (some (.ref f)) ∧ H c' = some (CodeO c' q) ∧
          tl Ech H fun v H1 => D.nx (σ.set 1 (some v)) H1)
        (ts := tAsg (tVar 3) (gName 2)) rfl rfl nd rfl rfl rfl LamX.takes0
        (fun W pn xe tk _ => ?_) ⟨rfl, by decide, Or.inl ap.gT⟩
        (fun a oe cls d pn hz hf => pss_one (ps_set (i := 2) nd rfl (Or.inl rfl) (pv 3))))
    (show PSs _ _ (rest3 X.K CP CN CR "place" "plan" "value" "number" "value" "parts") by exact (pss_cons (ps_if (pt_cmpR op_isN (pv 2) pe_non (nomark _)) (pss_one (ps_ret (pe_lst (pa_cons (pv 1) pa_nil)))) pss_nil)
      (pss_cons (ps_set (i := 4) nd rfl (Or.inl rfl) (pe_ifExp (pt_val (pe_callB (call_isV (K := X.K) rfl) (by rfl) T.n_isinstance (by decide +kernel) (pa_cons (pv 2) (pa_cons (pe_glob (v := .ref CP) rfl T.ex_BadPlan.gC rfl) pa_nil)))) (pe_lst (pa_cons (pe_tup (pa_cons pe_str (pa_cons (pe_xv (K := X.K) rfl (pv 2)) pa_nil))) pa_nil)) (pe_lst pa_nil)))
      (pss_cons (ps_set (i := 4) nd rfl (Or.inl rfl) (pe_ifExp (pt_val (pe_callB (call_isV (K := X.K) rfl) (by rfl) T.n_isinstance (by decide +kernel) (pa_cons (pv 2) (pa_cons (pe_glob (v := .ref CN) rfl T.ex_BadNumber.gC rfl) pa_nil)))) (pe_op op_cat (pv 4) (pe_lst (pa_cons (pe_tup (pa_cons pe_str (pa_cons (pe_xv (K := X.K) rfl (pv 2)) pa_nil))) pa_nil))) (pv 4)))
      (pss_cons (ps_set (i := 4) nd rfl (Or.inl rfl) (pe_ifExp (pt_val (pe_callB (call_isV (K := X.K) rfl) (by rfl) T.n_isinstance (by decide +kernel) (pa_cons (pv 2) (pa_cons (pe_glob (v := .ref CR) rfl T.ex_BadParts.gC rfl) pa_nil)))) (pe_op op_cat (pv 4) (pe_lst (pa_cons (pe_tup (pa_cons pe_str (pa_cons (pe_xv (K := X.K) rfl (pv 2)) pa_nil))) pa_nil))) (pv 4)))
      (pss_one (ps_ret (pe_ifExp (pt_cmpR op_eq (pe_callB (call_lenK (K := X.K) rfl) (by rfl) T.n_len PySem.boot_len (pa_cons (pv 4) pa_nil)) pe_int (nomark _)) (pe_ix (ix_listK (K := X.K) rfl) (pv 4) pe_int (fun _ _ => rfl)) (pe_tup (pa_cons pe_str pa_nil))))))))))), ?_⟩
  · refine ⟨fun pins s' σ H' D I h' => ?_⟩
    obtain ⟨Ech, hW, h1, h2, h3⟩ := h'
    exact PSs.run (t := tAsg (fun σZ HZ Q => σZ[0]? = some (some (.ref f)) ∧ HZ c' = some (CodeO c' q) ∧ tl Ech HZ Q) (gName 1))
      (by exact (pss_one (ps_set (i := 1) nd rfl (Or.inl rfl) (by exact (act _ pn xe Ech _ _ (takes_len tk) hW))))) pins s' σ H' D I ⟨h1, h2, h3⟩
  · refine ⟨Nat.le_trans (show 2 ≤ 5000 by decide) (by rw [sizeLine_eq]; decide), fun p hp => ?_⟩
    obtain ⟨r0, i0, w0⟩ := C.new (.tup [.non, .non]) I hp
    have hc0 : upd H p (.tup [.non, .non]) c' = some (CodeO c' q) := by rw [upd_ne (ne_of_none hc hp)]; exact hc
    refine ⟨p, [.non, .non], rfl, SqT.of upd_same, rfl, .non, _, rfl, .non, _, rfl, rfl, ?_⟩
    have ends : ∀ (H2 : Hp) (x : PyData), C.R H H2 → (x = z.said) → EndsOk C H2 { nx := fun _ H' => Q .non H', rt := Q } (pRt n (.d x)) := fun H2 x g e =>
      ⟨fun _ _ _ _ _ _ _ w => w.elim, fun v y n' H' g' i r w => by
        obtain ⟨rfl, rfl⟩ := w
        subst e
        exact kq v H' (C.trans g g') i r, fun _ _ _ _ _ _ _ w => w.elim, fun _ _ _ _ _ _ _ w => w.elim⟩
    have no : ∀ (C : DC.Ctx) (H2 : Hp), XOk C H2 (fun _ _ _ => False) noX := fun _ _ _ _ _ _ _ _ _ _ _ _ _ w => w
    cases z with
    | ok d =>
      refine ⟨fun _ _ _ => False, fun _ _ _ _ w => w.elim, rfl, hc0, hz _ r0 i0 _ _ fun r H' s1 i1 hd => ?_⟩
      refine rest3_ok (C := C) (E := fun _ _ _ => False) (X := noX) (n := n) (d := d) (g := .ref f) _ H' _ i1 ⟨rfl, fun i x hx => ?_⟩ (no _ _) (ends H' _ (C.trans r0 s1) rfl)
      match i, hx with
      | 0, hx => cases hx; exact ⟨_, rfl, rfl⟩
      | 1, hx => cases hx; exact ⟨_, rfl, hd⟩
      | 2, hx => cases hx; exact ⟨_, rfl, .non⟩
      | 3, hx => cases hx
      | 4, hx => cases hx
      | i + 5, hx => cases hx
    | exc cls f' tag d =>
      refine ⟨fun cl dd H' => cl = .ref cls ∧ ∃ x v, dd = some x ∧ C.R (upd H p (.tup [.non, .non])) H' ∧ C.inv n H' ∧ C.vw H' x = some (.xd [(f', v)]) ∧ Da (C.vw H') v d, ?_, rfl, hc0, hz _ r0 i0 _ _ fun v dd H' s1 i1 hx hd => ⟨rfl, dd, v, rfl, s1, i1, hx, hd⟩⟩
      rintro cl d0 σ' H' ⟨rfl, x, v, rfl, s1, i1, hx, hd⟩ l5
      obtain ⟨a0, a1, a2, a3, a4, rfl⟩ := five l5
      have go : ∀ (b1 b2 b3 : Bool) (V : ExcV X.K cls), PySem.W.kitOne X.K (.ref cls) (.ref CP) = some b1 → PySem.W.kitOne X.K (.ref cls) (.ref CN) = some b2 → PySem.W.kitOne X.K (.ref cls) (.ref CR) = some b3 → PySem.W.findIn X.K (.ref cls) f' = some none →
          ((b1 = true ∧ b2 = false ∧ b3 = false ∧ "place" = f' ∧ "plan" = tag) ∨ (b1 = false ∧ b2 = true ∧ b3 = false ∧ "value" = f' ∧ "number" = tag) ∨ (b1 = false ∧ b2 = false ∧ b3 = true ∧ "value" = f' ∧ "parts" = tag)) →
          ∀ a, H' a = none → rest3 X.K CP CN CR "place" "plan" "value" "number" "value" "parts" { nx := fun _ H' => Q .non H', rt := Q } [a0, a1, some (.ref a), none, a4] (upd H' a (ExR (.ref cls) (some x) a)) := by
        intro b1 b2 b3 V k1 k2 k3 hf hb a na
        obtain ⟨r2, i2, w2⟩ := C.new (ExR (.ref cls) (some x) a) i1 na (fun ps z => by unfold ExR at z; cases z)
        refine rest3_exc (C := C) (E := fun _ _ _ => False) (X := noX) (n := n) (d := d) (dd := x) (a := a) V k1 k2 k3 hf hb _ _ _ ⟨i2, w2, v, C.vwm r2 _ _ hx, Da.mono (C.vwm r2) hd⟩ ⟨rfl, fun i y hy => ?_⟩ (no _ _) ?_
        · match i, hy with
          | 0, hy => cases hy
          | 1, hy => cases hy
          | 2, hy => cases hy; exact ⟨_, rfl, rfl⟩
          | 3, hy => cases hy
          | 4, hy => cases hy
          | i + 5, hy => cases hy
        · exact ⟨fun _ _ _ _ _ _ _ w => w.elim, fun v y n' H2 g' i r w => by
            obtain ⟨rfl, rfl⟩ := w
            exact kq v H2 (C.trans r0 (C.trans s1 (C.trans r2 g'))) i.1 r, fun _ _ _ _ _ _ _ w => w.elim, fun _ _ _ _ _ _ _ w => w.elim⟩
      rcases gz with ⟨rfl, rfl, rfl⟩ | ⟨rfl, rfl, rfl⟩ | ⟨rfl, rfl, rfl⟩
      · exact ⟨true, ap.e_0, fun _ a na => ⟨_, rfl, go _ _ _ ap.v_0 ap.k_0_0 ap.k_0_1 ap.k_0_2 T.ex_BadPlan.noN (.inl ⟨rfl, rfl, rfl, rfl, rfl⟩) a na⟩, fun q => Bool.noConfusion q⟩
      · exact ⟨true, ap.e_1, fun _ a na => ⟨_, rfl, go _ _ _ ap.v_1 ap.k_1_0 ap.k_1_1 ap.k_1_2 T.ex_BadNumber.noN (.inr (.inl ⟨rfl, rfl, rfl, rfl, rfl⟩)) a na⟩, fun q => Bool.noConfusion q⟩
      · exact ⟨true, ap.e_2, fun _ a na => ⟨_, rfl, go _ _ _ ap.v_2 ap.k_2_0 ap.k_2_1 ap.k_2_2 T.ex_BadParts.noN (.inr (.inr ⟨rfl, rfl, rfl, rfl, rfl⟩)) a na⟩, fun q => Bool.noConfusion q⟩
section
variable {P : Program} {w : World} {K : PySem.W.Frag} {mg : Str → Option Value} {base : Heap} {t0 t1 t2 t3 t4 : Tok} {CP fP CN fN CR fR : Addr} {CT : Addr} {Ts : List (Addr × Str)}
end
end K13
set_option Elab.async false
set_option linter.all false
set_option maxRecDepth 100000
set_option maxHeartbeats 4000000
namespace K13
open PySem L2 Gd PySem.ExG DC CpComb LamX RZ
set_option exponentiation.threshold 10000
section
variable {P : Program} {w : World} {K : PySem.W.Frag} {mg : Str → Option Value} {base : Heap} {t0 t1 t2 t3 t4 : Tok} {CP fP CN fN CR fR : Addr} {CT : Addr} {Ts : List (Addr × Str)}
def m_is_whole : VS := (sRet (vAnd (vIs isIntD (vVar 0)) (vNot (vIs isBoolD (vVar 0)))))
def F_is_whole : List DVal → T DVal := fnT 1 ["value"] m_is_whole
theorem sc_is_whole : FnScope ["value"] ["value"] (defScope s_is_whole) := ⟨rfl, rfl, rfl, by decide +kernel, rfl, by decide +kernel, by decide +kernel⟩
theorem h_is_whole (T : Tx P K mg t0 t1 t2 t3 t4 CP fP CN fN CR fR)  : Fd P w K mg base "is_whole" ["value"] CX0 1 (spT (Ts := Ts) (cm := cmS CP CN CR) F_is_whole) := by
  obtain ⟨f, fd, A⟩ := T.a_is_whole
  have nd := sc_is_whole.nd
  exact ⟨f, fd, A.g, A.F.kp, A.b, A.F.ok sc_is_whole (fun vs H Q E h => spG_len h fun _ _ _ _ _ z => spT_len z) (fun cdv Ar outer s H vs Q E hr h => ⟨_, (pss_one (ps_ret (pe_and (pe_callB (call_isiK' (K := K) rfl) (by rfl) T.n_isinstance (by decide +kernel) (pa_cons (pv 0) (pa_cons (pe_bltn (v := .ty "int") (by rfl) T.n_int (by decide +kernel) rfl) pa_nil))) (pe_one (pe_not (pe_callB (call_isiK' (K := K) rfl) (by rfl) T.n_isinstance (by decide +kernel) (pa_cons (pv 0) (pa_cons (pe_bltn (v := .ty "bool") (by rfl) T.n_bool (by decide +kernel) rfl) pa_nil)))))))),
    run1 h (sns_ret (snd_andV (snd_isI snd_var) (snd_notV (snd_isB snd_var))))⟩)⟩
def m_is_between : VS := (sRet (vAnd (vCall F_is_whole (aCons (vVar 0) aNil)) (vChain (fun i j => decide (i ≤ j)) (fun i j => decide (i ≤ j)) (vVar 1) (vVar 0) (vVar 2))))
def F_is_between : List DVal → T DVal := fnT 3 ["value", "low", "high"] m_is_between
theorem sc_is_between : FnScope ["value", "low", "high"] ["value", "low", "high"] (defScope s_is_between) := ⟨rfl, rfl, rfl, by decide +kernel, rfl, by decide +kernel, by decide +kernel⟩
theorem h_is_between (T : Tx P K mg t0 t1 t2 t3 t4 CP fP CN fN CR fR) (X_is_whole : Fd P w K mg base "is_whole" ["value"] CX0 1 (spT (Ts := Ts) (cm := cmS CP CN CR) F_is_whole)) : Fd P w K mg base "is_between" ["value", "low", "high"] CX0 2 (spT (Ts := Ts) (cm := cmS CP CN CR) F_is_between) := by
  obtain ⟨f, fd, A⟩ := T.a_is_between
  obtain ⟨_, _, g_is_whole, kp_is_whole, b_is_whole, G_is_whole⟩ := X_is_whole.ex
  have nd := sc_is_between.nd
  exact ⟨f, fd, A.g, A.F.kp, A.b, A.F.ok sc_is_between (fun vs H Q E h => spG_len h fun _ _ _ _ _ z => spT_len z) (fun cdv Ar outer s H vs Q E hr h => ⟨_, (pss_one (ps_ret (pe_and (pe_call G_is_whole (hr.mono (by decide)) rfl g_is_whole kp_is_whole b_is_whole .nil pass0 (pa_cons (pv 0) pa_nil)) (pe_one (pe_chain op_le op_le (pv 1) (pv 0) (pv 2)))))),
    run1 h (sns_ret (snd_andV (snd_call (snd_cons snd_var snd_nil)) (snd_chain snd_var snd_var snd_var)))⟩)⟩
def m_is_gap : VS := (sRet (vCall F_is_between (aCons (vVar 0) (aCons (vC (.int 1)) (aCons (vC (.int (10 ^ 30))) aNil)))))
def F_is_gap : List DVal → T DVal := fnT 1 ["value"] m_is_gap
theorem sc_is_gap : FnScope ["value"] ["value"] (defScope s_is_gap) := ⟨rfl, rfl, rfl, by decide +kernel, rfl, by decide +kernel, by decide +kernel⟩
theorem h_is_gap (T : Tx P K mg t0 t1 t2 t3 t4 CP fP CN fN CR fR) (X_is_between : Fd P w K mg base "is_between" ["value", "low", "high"] CX0 2 (spT (Ts := Ts) (cm := cmS CP CN CR) F_is_between)) : Fd P w K mg base "is_gap" ["value"] CX0 3 (spT (Ts := Ts) (cm := cmS CP CN CR) F_is_gap) := by
  obtain ⟨f, fd, A⟩ := T.a_is_gap
  obtain ⟨_, _, g_is_between, kp_is_between, b_is_between, G_is_between⟩ := X_is_between.ex
  have nd := sc_is_gap.nd
  exact ⟨f, fd, A.g, A.F.kp, A.b, A.F.ok sc_is_gap (fun vs H Q E h => spG_len h fun _ _ _ _ _ z => spT_len z) (fun cdv Ar outer s H vs Q E hr h => ⟨_, (pss_one (ps_ret (pe_call G_is_between (hr.mono (by decide)) rfl g_is_between kp_is_between b_is_between .nil pass0 (pa_cons (pv 0) (pa_cons pe_int (pa_cons (pe_glob (v := .int (10 ^ 30)) rfl T.g_MOST_GAP ⟨_, rfl⟩) pa_nil)))))),
    run1 h (sns_ret (snd_call (snd_cons snd_var (snd_cons snd_int (snd_cons snd_int snd_nil)))))⟩)⟩
def m_need_plan : VS := (sSeq (sIf (tO (tN (tV (vIs isTupD (vVar 0)))) (tV (vNe (vLen (vVar 0)) (vC (.int 2))))) (sRaise 0 "place" (aCons (vTup aNil) aNil)) sNext)
  (sSeq (sUnp (g2 (gN 1) (gN 2)) (vVar 0))
  (sSeq (sIf (tN (tV (vCall F_is_between (aCons (vVar 1) (aCons (vC (.int 1)) (aCons (vC (.int 3)) aNil)))))) (sRaise 0 "place" (aCons (vTup (aCons (vC (.int 0)) aNil)) aNil)) sNext)
  (sSeq (sIf (tO (tN (tV (vIs isTupD (vVar 2)))) (tN (tV (vCall F_is_between (aCons (vLen (vVar 2)) (aCons (vC (.int 1)) (aCons (vC (.int 8)) aNil))))))) (sRaise 0 "place" (aCons (vTup (aCons (vC (.int 1)) aNil)) aNil)) sNext)
  (sSeq (sFor (iEnT' (vVar 2)) (g2 (gN 3) (gN 4)) (sIf (tN (tV (vCall F_is_gap (aCons (vVar 4) aNil)))) (sRaise 0 "place" (aCons (vTup (aCons (vC (.int 1)) (aCons (vVar 3) aNil))) aNil)) sNext))
  (sRet (vVar 0)))))))
def F_need_plan : List DVal → T DVal := fnT 1 ["thing", "hands", "gaps", "number", "gap"] m_need_plan
theorem sc_need_plan : FnScope ["thing", "hands", "gaps", "number", "gap"] ["thing"] (defScope s_need_plan) := ⟨rfl, rfl, rfl, by decide +kernel, rfl, by decide +kernel, by decide +kernel⟩
theorem h_need_plan (T : Tx P K mg t0 t1 t2 t3 t4 CP fP CN fN CR fR) (X_is_between : Fd P w K mg base "is_between" ["value", "low", "high"] CX0 2 (spT (Ts := Ts) (cm := cmS CP CN CR) F_is_between)) (X_is_gap : Fd P w K mg base "is_gap" ["value"] CX0 3 (spT (Ts := Ts) (cm := cmS CP CN CR) F_is_gap)) : Fd P w K mg base "need_plan" ["thing"] (L2.CX P w) 4 (spT (Ts := Ts) (cm := cmS CP CN CR) F_need_plan) := by
  obtain ⟨f, fd, A⟩ := T.a_need_plan
  obtain ⟨_, _, g_is_between, kp_is_between, b_is_between, G_is_between⟩ := X_is_between.ex
  obtain ⟨_, _, g_is_gap, kp_is_gap, b_is_gap, G_is_gap⟩ := X_is_gap.ex
  have nd := sc_need_plan.nd
  exact ⟨f, fd, A.g, A.F.kp, A.b, A.F.okX sc_need_plan (fun vs H Q E h => spG_len h fun _ _ _ _ _ z => spT_len z) (fun cdv Ar outer s H vs Q E hr h => ⟨_, (pss_cons (ps_if (PW.pt (pw_or (pt_not (pt_val (pe_callB (call_isiK' (K := K) rfl) (by rfl) T.n_isinstance (by decide +kernel) (pa_cons (pv 0) (pa_cons (pe_bltn (v := .ty "tuple") (by rfl) T.n_tuple (by decide +kernel) rfl) pa_nil))))) (pw_or1 (pt_cmpR op_ne (pe_callB (call_lenK (K := K) rfl) (by rfl) T.n_len PySem.boot_len (pa_cons (pv 0) pa_nil)) pe_int (nomark _))))) (pss_one (ps_raiseEx rfl T.ex_BadPlan hr (takes_of rfl rfl rfl rfl) (by exact (pa_cons (pe_tup pa_nil) pa_nil)) rfl)) pss_nil)
      (pss_cons (ps_asg (pv 0) (pg_tup (by rfl) (pgs_cons (pg_name (i := 1) nd rfl (Or.inl rfl)) (pgs_cons (pg_name (i := 2) nd rfl (Or.inl rfl)) pgs_nil))))
      (pss_cons (ps_if (pt_not (pt_val (pe_call G_is_between (hr.mono (by decide)) rfl g_is_between kp_is_between b_is_between .nil pass0 (pa_cons (pv 1) (pa_cons pe_int (pa_cons (pe_glob (v := .int 3) rfl T.g_MOST_HANDS ⟨_, rfl⟩) pa_nil)))))) (pss_one (ps_raiseEx rfl T.ex_BadPlan hr (takes_of rfl rfl rfl rfl) (by exact (pa_cons (pe_tup (pa_cons pe_int pa_nil)) pa_nil)) rfl)) pss_nil)
      (pss_cons (ps_if (PW.pt (pw_or (pt_not (pt_val (pe_callB (call_isiK' (K := K) rfl) (by rfl) T.n_isinstance (by decide +kernel) (pa_cons (pv 2) (pa_cons (pe_bltn (v := .ty "tuple") (by rfl) T.n_tuple (by decide +kernel) rfl) pa_nil))))) (pw_or1 (pt_not (pt_val (pe_call G_is_between (hr.mono (by decide)) rfl g_is_between kp_is_between b_is_between .nil pass0 (pa_cons (pe_callB (call_lenK (K := K) rfl) (by rfl) T.n_len PySem.boot_len (pa_cons (pv 2) pa_nil)) (pa_cons pe_int (pa_cons (pe_glob (v := .int 8) rfl T.g_MOST_THINGS ⟨_, rfl⟩) pa_nil))))))))) (pss_one (ps_raiseEx rfl T.ex_BadPlan hr (takes_of rfl rfl rfl rfl) (by exact (pa_cons (pe_tup (pa_cons pe_int pa_nil)) pa_nil)) rfl)) pss_nil)
      (pss_cons (ps_for (passes_of rfl) rfl (pi_enT (by rfl) T.n_enumerate (pa_cons (pv 2) pa_nil)) (pg_tup (by rfl) (pgs_cons (pg_name (i := 3) nd rfl (Or.inl rfl)) (pgs_cons (pg_name (i := 4) nd rfl (Or.inl rfl)) pgs_nil))) (pss_one (ps_if (pt_not (pt_val (pe_call G_is_gap (hr.mono (by decide)) rfl g_is_gap kp_is_gap b_is_gap .nil pass0 (pa_cons (pv 4) pa_nil)))) (pss_one (ps_raiseEx rfl T.ex_BadPlan hr (takes_of rfl rfl rfl rfl) (by exact (pa_cons (pe_tup (pa_cons pe_int (pa_cons (pv 3) pa_nil))) pa_nil)) rfl)) pss_nil)))
      (pss_one (ps_ret (pv 0)))))))),
    run1 h (sns_seq (sns_if (snd_or (snd_not (snd_tB (snd_isT snd_var))) (snd_test (snd_ne (snd_len snd_var) snd_int))) (sns_raise (c := 0) (snd_cons (snd_tup snd_nil) snd_nil)) sns_next)
  (sns_seq (sns_unp snd_var (sgo_two (by with_unfolding_all rfl) sgo_name sgo_name))
  (sns_seq (sns_if (snd_not (snd_tB (snd_call (snd_cons snd_var (snd_cons snd_int (snd_cons snd_int snd_nil)))))) (sns_raise (c := 0) (snd_cons (snd_tup (snd_cons snd_int snd_nil)) snd_nil)) sns_next)
  (sns_seq (sns_if (snd_or (snd_not (snd_tB (snd_isT snd_var))) (snd_not (snd_tB (snd_call (snd_cons (snd_len snd_var) (snd_cons snd_int (snd_cons snd_int snd_nil))))))) (sns_raise (c := 0) (snd_cons (snd_tup (snd_cons snd_int snd_nil)) snd_nil)) sns_next)
  (sns_seq (sns_for (sni_enT snd_var) (sgo_two (by with_unfolding_all rfl) sgo_name sgo_name) (sns_if (snd_not (snd_tB (snd_call (snd_cons snd_var snd_nil)))) (sns_raise (c := 0) (snd_cons (snd_tup (snd_cons snd_int (snd_cons snd_var snd_nil))) snd_nil)) sns_next))
  (sns_ret snd_var))))))⟩)⟩
def m_need_number : VS := (sSeq (sIf (tN (tV (vCall F_is_between (aCons (vVar 1) (aCons (vC (.int 0)) (aCons (vInt (fun i j => i - j) (vLen (vVar 0)) (vC (.int 1))) aNil)))))) (sRaise 1 "value" (aCons (vVar 1) aNil)) sNext)
  (sRet (vVar 1)))
def F_need_number : List DVal → T DVal := fnT 2 ["gaps", "number"] m_need_number
theorem sc_need_number : FnScope ["gaps", "number"] ["gaps", "number"] (defScope s_need_number) := ⟨rfl, rfl, rfl, by decide +kernel, rfl, by decide +kernel, by decide +kernel⟩
theorem h_need_number (T : Tx P K mg t0 t1 t2 t3 t4 CP fP CN fN CR fR) (X_is_between : Fd P w K mg base "is_between" ["value", "low", "high"] CX0 2 (spT (Ts := Ts) (cm := cmS CP CN CR) F_is_between)) : Fd P w K mg base "need_number" ["gaps", "number"] (L2.CX P w) 3 (spT (Ts := Ts) (cm := cmS CP CN CR) F_need_number) := by
  obtain ⟨f, fd, A⟩ := T.a_need_number
  obtain ⟨_, _, g_is_between, kp_is_between, b_is_between, G_is_between⟩ := X_is_between.ex
  have nd := sc_need_number.nd
  exact ⟨f, fd, A.g, A.F.kp, A.b, A.F.okX sc_need_number (fun vs H Q E h => spG_len h fun _ _ _ _ _ z => spT_len z) (fun cdv Ar outer s H vs Q E hr h => ⟨_, (pss_cons (ps_if (pt_not (pt_val (pe_call G_is_between (hr.mono (by decide)) rfl g_is_between kp_is_between b_is_between .nil pass0 (pa_cons (pv 1) (pa_cons pe_int (pa_cons (pe_op op_sub (pe_callB (call_lenK (K := K) rfl) (by rfl) T.n_len PySem.boot_len (pa_cons (pv 0) pa_nil)) pe_int) pa_nil)))))) (pss_one (ps_raiseEx rfl T.ex_BadNumber hr (takes_of rfl rfl rfl rfl) (by exact (pa_cons (pv 1) pa_nil)) rfl)) pss_nil)
      (pss_one (ps_ret (pv 1)))),
    run1 h (sns_seq (sns_if (snd_not (snd_tB (snd_call (snd_cons snd_var (snd_cons snd_int (snd_cons (snd_op0 (snd_len snd_var) snd_int) snd_nil)))))) (sns_raise (c := 1) (snd_cons snd_var snd_nil)) sns_next)
  (sns_ret snd_var))⟩)⟩
def m_is_part : VS := (sSeq (sIf (tO (tN (tV (vIs isTupD (vVar 2)))) (tV (vNe (vLen (vVar 2)) (vC (.int 3))))) (sRet (vC (.bool false))) sNext)
  (sSeq (sUnp (g3 (gN 3) (gN 4) (gN 5)) (vVar 2))
  (sRet (vAnd (vCall F_is_between (aCons (vVar 3) (aCons (vC (.int 0)) (aCons (vInt (fun i j => i - j) (vVar 0) (vC (.int 1))) aNil)))) (vAnd (vCall F_is_between (aCons (vVar 4) (aCons (vC (.int 1)) (aCons (vVar 1) aNil)))) (vCall F_is_between (aCons (vVar 5) (aCons (vC (.int 0)) (aCons (vInt (fun i j => i - j) (vVar 4) (vC (.int 1))) aNil)))))))))
def F_is_part : List DVal → T DVal := fnT 3 ["hands", "gap", "value", "hand", "every", "start"] m_is_part
theorem sc_is_part : FnScope ["hands", "gap", "value", "hand", "every", "start"] ["hands", "gap", "value"] (defScope s_is_part) := ⟨rfl, rfl, rfl, by decide +kernel, rfl, by decide +kernel, by decide +kernel⟩
theorem h_is_part (T : Tx P K mg t0 t1 t2 t3 t4 CP fP CN fN CR fR) (X_is_between : Fd P w K mg base "is_between" ["value", "low", "high"] CX0 2 (spT (Ts := Ts) (cm := cmS CP CN CR) F_is_between)) : Fd P w K mg base "is_part" ["hands", "gap", "value"] CX0 3 (spT (Ts := Ts) (cm := cmS CP CN CR) F_is_part) := by
  obtain ⟨f, fd, A⟩ := T.a_is_part
  obtain ⟨_, _, g_is_between, kp_is_between, b_is_between, G_is_between⟩ := X_is_between.ex
  have nd := sc_is_part.nd
  exact ⟨f, fd, A.g, A.F.kp, A.b, A.F.ok sc_is_part (fun vs H Q E h => spG_len h fun _ _ _ _ _ z => spT_len z) (fun cdv Ar outer s H vs Q E hr h => ⟨_, (pss_cons (ps_if (PW.pt (pw_or (pt_not (pt_val (pe_callB (call_isiK' (K := K) rfl) (by rfl) T.n_isinstance (by decide +kernel) (pa_cons (pv 2) (pa_cons (pe_bltn (v := .ty "tuple") (by rfl) T.n_tuple (by decide +kernel) rfl) pa_nil))))) (pw_or1 (pt_cmpR op_ne (pe_callB (call_lenK (K := K) rfl) (by rfl) T.n_len PySem.boot_len (pa_cons (pv 2) pa_nil)) pe_int (nomark _))))) (pss_one (ps_ret pe_bl)) pss_nil)
      (pss_cons (ps_asg (pv 2) (pg_tup (by rfl) (pgs_cons (pg_name (i := 3) nd rfl (Or.inl rfl)) (pgs_cons (pg_name (i := 4) nd rfl (Or.inl rfl)) (pgs_cons (pg_name (i := 5) nd rfl (Or.inl rfl)) pgs_nil)))))
      (pss_one (ps_ret (pe_and (pe_call G_is_between (hr.mono (by decide)) rfl g_is_between kp_is_between b_is_between .nil pass0 (pa_cons (pv 3) (pa_cons pe_int (pa_cons (pe_op op_sub (pv 0) pe_int) pa_nil)))) (pe_and (pe_call G_is_between (hr.mono (by decide)) rfl g_is_between kp_is_between b_is_between .nil pass0 (pa_cons (pv 4) (pa_cons pe_int (pa_cons (pv 1) pa_nil)))) (pe_one (pe_call G_is_between (hr.mono (by decide)) rfl g_is_between kp_is_between b_is_between .nil pass0 (pa_cons (pv 5) (pa_cons pe_int (pa_cons (pe_op op_sub (pv 4) pe_int) pa_nil))))))))))),
    run1 h (sns_seq (sns_if (snd_or (snd_not (snd_tB (snd_isT snd_var))) (snd_test (snd_ne (snd_len snd_var) snd_int))) (sns_ret snd_bl) sns_next)
  (sns_seq (sns_unp snd_var (sgo_three (by with_unfolding_all rfl) sgo_name sgo_name sgo_name))
  (sns_ret (snd_andV (snd_call (snd_cons snd_var (snd_cons snd_int (snd_cons (snd_op0 snd_var snd_int) snd_nil)))) (snd_andV (snd_call (snd_cons snd_var (snd_cons snd_int (snd_cons snd_var snd_nil)))) (snd_call (snd_cons snd_var (snd_cons snd_int (snd_cons (snd_op0 snd_var snd_int) snd_nil)))))))))⟩)⟩
def m_do_meet : VS := (sSeq (sUnp (g3 (gN 2) (gN 3) (gN 4)) (vVar 0))
  (sSeq (sUnp (g3 (gN 5) (gN 6) (gN 7)) (vVar 1))
  (sRet (vAnd (vEq (vVar 2) (vVar 5)) (vEq (vIntC (fun _ j => 0 < j) (fun i j => i % j) (vInt (fun i j => i - j) (vVar 4) (vVar 7)) (vGcd (vVar 3) (vVar 6))) (vC (.int 0)))))))
def F_do_meet : List DVal → T DVal := fnT 2 ["one", "other", "hand", "every", "start", "other_hand", "other_every", "other_start"] m_do_meet
theorem sc_do_meet : FnScope ["one", "other", "hand", "every", "start", "other_hand", "other_every", "other_start"] ["one", "other"] (defScope s_do_meet) := ⟨rfl, rfl, rfl, by decide +kernel, rfl, by decide +kernel, by decide +kernel⟩
theorem h_do_meet (T : Tx P K mg t0 t1 t2 t3 t4 CP fP CN fN CR fR)  : Fd P w K mg base "do_meet" ["one", "other"] CX0 1 (spT (Ts := Ts) (cm := cmS CP CN CR) F_do_meet) := by
  obtain ⟨f, fd, A⟩ := T.a_do_meet
  have nd := sc_do_meet.nd
  exact ⟨f, fd, A.g, A.F.kp, A.b, A.F.ok sc_do_meet (fun vs H Q E h => spG_len h fun _ _ _ _ _ z => spT_len z) (fun cdv Ar outer s H vs Q E hr h => ⟨_, (pss_cons (ps_asg (pv 0) (pg_tup (by rfl) (pgs_cons (pg_name (i := 2) nd rfl (Or.inl rfl)) (pgs_cons (pg_name (i := 3) nd rfl (Or.inl rfl)) (pgs_cons (pg_name (i := 4) nd rfl (Or.inl rfl)) pgs_nil)))))
      (pss_cons (ps_asg (pv 1) (pg_tup (by rfl) (pgs_cons (pg_name (i := 5) nd rfl (Or.inl rfl)) (pgs_cons (pg_name (i := 6) nd rfl (Or.inl rfl)) (pgs_cons (pg_name (i := 7) nd rfl (Or.inl rfl)) pgs_nil)))))
      (pss_one (ps_ret (pe_and (pe_cmpR op_eq (pv 2) (pv 5) (nomark _)) (pe_one (pe_cmpR op_eq (pe_op op_mod (pe_op op_sub (pv 4) (pv 7)) (pe_callBfun cr_gcd (by rfl) T.gcd (pa_cons (pv 3) (pa_cons (pv 6) pa_nil)))) pe_int (nomark _)))))))),
    run1 h (sns_seq (sns_unp snd_var (sgo_three (by with_unfolding_all rfl) sgo_name sgo_name sgo_name))
  (sns_seq (sns_unp snd_var (sgo_three (by with_unfolding_all rfl) sgo_name sgo_name sgo_name))
  (sns_ret (snd_andV (snd_eq snd_var snd_var) (snd_eq (snd_opC (snd_op0 snd_var snd_var) (snd_gcd snd_var snd_var)) snd_int)))))⟩)⟩
def m_are_parts : VS := (sSeq (sUnp (g2 (gN 2) (gN 3)) (vCallS F_need_plan (aCons (vVar 0) aNil)))
  (sSeq (sIf (tO (tN (tV (vIs isTupD (vVar 1)))) (tV (vNe (vLen (vVar 1)) (vLen (vVar 3))))) (sRet (vC (.bool false))) sNext)
  (sSeq (sIf (tN (tV (vAll (vLc (iZipTT (vVar 3) (vVar 1)) (g2 (gN 4) (gN 5)) tY (vCall F_is_part (aCons (vVar 2) (aCons (vVar 4) (aCons (vVar 5) aNil)))) [4, 5])))) (sRet (vC (.bool false))) sNext)
  (sRet (vNot (vAny (vLc (iComb' (vLen (vVar 1)) (vC (.int 2))) (g2 (gN 6) (gN 7)) tY (vCall F_do_meet (aCons (vIxT (vVar 1) (vVar 6)) (aCons (vIxT (vVar 1) (vVar 7)) aNil))) [6, 7])))))))
def F_are_parts : List DVal → T DVal := fnT 2 ["plan", "value", "hands", "gaps", "gap", "part", "one", "other"] m_are_parts
theorem sc_are_parts : FnScope ["plan", "value", "hands", "gaps", "gap", "part", "one", "other"] ["plan", "value"] (defScope s_are_parts) := ⟨rfl, rfl, rfl, by decide +kernel, rfl, by decide +kernel, by decide +kernel⟩
theorem h_are_parts (T : Tx P K mg t0 t1 t2 t3 t4 CP fP CN fN CR fR) (X_need_plan : Fd P w K mg base "need_plan" ["thing"] (L2.CX P w) 4 (spT (Ts := Ts) (cm := cmS CP CN CR) F_need_plan)) (X_is_part : Fd P w K mg base "is_part" ["hands", "gap", "value"] CX0 3 (spT (Ts := Ts) (cm := cmS CP CN CR) F_is_part)) (X_do_meet : Fd P w K mg base "do_meet" ["one", "other"] CX0 1 (spT (Ts := Ts) (cm := cmS CP CN CR) F_do_meet)) : Fd P w K mg base "are_parts" ["plan", "value"] (L2.CX P w) 5 (spT (Ts := Ts) (cm := cmS CP CN CR) F_are_parts) := by
  obtain ⟨f, fd, A⟩ := T.a_are_parts
  obtain ⟨_, _, g_need_plan, kp_need_plan, b_need_plan, G_need_plan⟩ := X_need_plan.ex
  obtain ⟨_, _, g_is_part, kp_is_part, b_is_part, G_is_part⟩ := X_is_part.ex
  obtain ⟨_, _, g_do_meet, kp_do_meet, b_do_meet, G_do_meet⟩ := X_do_meet.ex
  have nd := sc_are_parts.nd
  exact ⟨f, fd, A.g, A.F.kp, A.b, A.F.okX sc_are_parts (fun vs H Q E h => spG_len h fun _ _ _ _ _ z => spT_len z) (fun cdv Ar outer s H vs Q E hr h => ⟨_, (pss_cons (ps_asg (pe_callS G_need_plan (hr.mono (by decide)) rfl g_need_plan kp_need_plan b_need_plan (fun σ => passAt (takes_of rfl rfl rfl rfl) σ) (by exact (pa_cons (pv 0) pa_nil))) (pg_tup (by rfl) (pgs_cons (pg_name (i := 2) nd rfl (Or.inr rfl)) (pgs_cons (pg_name (i := 3) nd rfl (Or.inl rfl)) pgs_nil))))
      (pss_cons (ps_if (PW.pt (pw_or (pt_not (pt_val (pe_callB (call_isiK' (K := K) rfl) (by rfl) T.n_isinstance (by decide +kernel) (pa_cons (pv 1) (pa_cons (pe_bltn (v := .ty "tuple") (by rfl) T.n_tuple (by decide +kernel) rfl) pa_nil))))) (pw_or1 (pt_cmpR op_ne (pe_callB (call_lenK (K := K) rfl) (by rfl) T.n_len PySem.boot_len (pa_cons (pv 1) pa_nil)) (pe_callB (call_lenK (K := K) rfl) (by rfl) T.n_len PySem.boot_len (pa_cons (pv 3) pa_nil)) (nomark _))))) (pss_one (ps_ret pe_bl)) pss_nil)
      (pss_cons (ps_if (pt_not (pt_val (pe_callB (cr_allK (K := K) rfl rfl) (by rfl) T.n_all (by decide +kernel) (pa_cons (pe_lc (own := [("gap", 4), ("part", 5)]) (g := (gTup K 2 (gCons (gName 4) (gCons (gName 5) gNil)))) (tt := tYes) rfl nd (RZ.pi_zipA (by rfl) T.n_zip (pa_cons (pv 3) (pa_cons (pv 1) pa_nil))) (blkOk_by (N := ["plan", "value", "hands", "gaps", "gap", "part", "one", "other"]) (sc := defScope s_are_parts) (by decide +kernel)) (fun _ _ _ _ _ => by exact (pg_tup (by rfl) (pgs_cons (pg_name (i := 4) nd rfl (Or.inl rfl)) (pgs_cons (pg_name (i := 5) nd rfl (Or.inl rfl)) pgs_nil)))) (fun _ _ _ _ _ => pts_nil) (fun _ _ _ _ _ => by exact (pe_call G_is_part (hr.mono (by decide)) rfl g_is_part kp_is_part b_is_part .nil pass0 (pa_cons (pv 2) (pa_cons (pv 4) (pa_cons (pv 5) pa_nil)))))) pa_nil)))) (pss_one (ps_ret pe_bl)) pss_nil)
      (pss_one (ps_ret (pe_not (pe_callB (cr_anyK (K := K) rfl rfl) (by rfl) T.n_any (by decide +kernel) (pa_cons (pe_lc (own := [("one", 6), ("other", 7)]) (g := (gTup K 2 (gCons (gName 6) (gCons (gName 7) gNil)))) (tt := tYes) rfl nd (pi_comb rfl (by rfl) T.comb (by rfl) T.n_range (pe_callB (call_lenK (K := K) rfl) (by rfl) T.n_len PySem.boot_len (pa_cons (pv 1) pa_nil)) pe_int) (blkOk_by (N := ["plan", "value", "hands", "gaps", "gap", "part", "one", "other"]) (sc := defScope s_are_parts) (by decide +kernel)) (fun _ _ _ _ _ => by exact (pg_tup (by rfl) (pgs_cons (pg_name (i := 6) nd rfl (Or.inl rfl)) (pgs_cons (pg_name (i := 7) nd rfl (Or.inl rfl)) pgs_nil)))) (fun _ _ _ _ _ => pts_nil) (fun _ _ _ _ _ => by exact (pe_call G_do_meet (hr.mono (by decide)) rfl g_do_meet kp_do_meet b_do_meet .nil pass0 (pa_cons (pe_ix (ix_tupK (K := K) rfl) (pv 1) (pv 6) (fun _ _ => rfl)) (pa_cons (pe_ix (ix_tupK (K := K) rfl) (pv 1) (pv 7) (fun _ _ => rfl)) pa_nil))))) pa_nil)))))))),
    run1 h (sns_seq (sns_unp (snd_callS (snd_cons snd_var snd_nil)) (sgo_two (by with_unfolding_all rfl) sgo_name sgo_name))
  (sns_seq (sns_if (snd_or (snd_not (snd_tB (snd_isT snd_var))) (snd_test (snd_ne (snd_len snd_var) (snd_len snd_var)))) (sns_ret snd_bl) sns_next)
  (sns_seq (sns_if (snd_not (snd_tB (snd_all (snd_lc (sni_zipTT snd_var snd_var) (sng_two (by with_unfolding_all rfl) sng_name sng_name) (by decide) snd_yes (snd_call (snd_cons snd_var (snd_cons snd_var (snd_cons snd_var snd_nil)))))))) (sns_ret snd_bl) sns_next)
  (sns_ret (snd_notV (snd_any (snd_lc (sni_comb (snd_len snd_var) snd_int) (sng_two (by with_unfolding_all rfl) sng_name sng_name) (by decide) snd_yes (snd_call (snd_cons (snd_ixT snd_var snd_var) (snd_cons (snd_ixT snd_var snd_var) snd_nil))))))))))⟩)⟩
def m_need_parts : VS := (sSeq (sIf (tN (tV (vCallS F_are_parts (aCons (vVar 0) (aCons (vVar 1) aNil))))) (sRaise 2 "value" (aCons (vVar 1) aNil)) sNext)
  (sRet (vVar 1)))
def F_need_parts : List DVal → T DVal := fnT 2 ["plan", "parts"] m_need_parts
theorem sc_need_parts : FnScope ["plan", "parts"] ["plan", "parts"] (defScope s_need_parts) := ⟨rfl, rfl, rfl, by decide +kernel, rfl, by decide +kernel, by decide +kernel⟩
theorem h_need_parts (T : Tx P K mg t0 t1 t2 t3 t4 CP fP CN fN CR fR) (X_are_parts : Fd P w K mg base "are_parts" ["plan", "value"] (L2.CX P w) 5 (spT (Ts := Ts) (cm := cmS CP CN CR) F_are_parts)) : Fd P w K mg base "need_parts" ["plan", "parts"] (L2.CX P w) 6 (spT (Ts := Ts) (cm := cmS CP CN CR) F_need_parts) := by
  obtain ⟨f, fd, A⟩ := T.a_need_parts
  obtain ⟨_, _, g_are_parts, kp_are_parts, b_are_parts, G_are_parts⟩ := X_are_parts.ex
  have nd := sc_need_parts.nd
  exact ⟨f, fd, A.g, A.F.kp, A.b, A.F.okX sc_need_parts (fun vs H Q E h => spG_len h fun _ _ _ _ _ z => spT_len z) (fun cdv Ar outer s H vs Q E hr h => ⟨_, (pss_cons (ps_if (pt_not (pt_val (pe_callS G_are_parts (hr.mono (by decide)) rfl g_are_parts kp_are_parts b_are_parts (fun σ => passAt (takes_of rfl rfl rfl rfl) σ) (by exact (pa_cons (pv 0) (pa_cons (pv 1) pa_nil)))))) (pss_one (ps_raiseEx rfl T.ex_BadParts hr (takes_of rfl rfl rfl rfl) (by exact (pa_cons (pv 1) pa_nil)) rfl)) pss_nil)
      (pss_one (ps_ret (pv 1)))),
    run1 h (sns_seq (sns_if (snd_not (snd_tB (snd_callS (snd_cons snd_var (snd_cons snd_var snd_nil))))) (sns_raise (c := 2) (snd_cons snd_var snd_nil)) sns_next)
  (sns_ret snd_var))⟩)⟩
def m_need_day_number : VS := (sSeq (sIf (tN (tV (vCall F_is_between (aCons (vVar 0) (aCons (vC (.int 0)) (aCons (vC (.int (10 ^ 30))) aNil)))))) (sRaise 1 "value" (aCons (vVar 0) aNil)) sNext)
  (sRet (vVar 0)))
def F_need_day_number : List DVal → T DVal := fnT 1 ["day"] m_need_day_number
theorem sc_need_day_number : FnScope ["day"] ["day"] (defScope s_need_day_number) := ⟨rfl, rfl, rfl, by decide +kernel, rfl, by decide +kernel, by decide +kernel⟩
theorem h_need_day_number (T : Tx P K mg t0 t1 t2 t3 t4 CP fP CN fN CR fR) (X_is_between : Fd P w K mg base "is_between" ["value", "low", "high"] CX0 2 (spT (Ts := Ts) (cm := cmS CP CN CR) F_is_between)) : Fd P w K mg base "need_day_number" ["day"] (L2.CX P w) 3 (spT (Ts := Ts) (cm := cmS CP CN CR) F_need_day_number) := by
  obtain ⟨f, fd, A⟩ := T.a_need_day_number
  obtain ⟨_, _, g_is_between, kp_is_between, b_is_between, G_is_between⟩ := X_is_between.ex
  have nd := sc_need_day_number.nd
  exact ⟨f, fd, A.g, A.F.kp, A.b, A.F.okX sc_need_day_number (fun vs H Q E h => spG_len h fun _ _ _ _ _ z => spT_len z) (fun cdv Ar outer s H vs Q E hr h => ⟨_, (pss_cons (ps_if (pt_not (pt_val (pe_call G_is_between (hr.mono (by decide)) rfl g_is_between kp_is_between b_is_between .nil pass0 (pa_cons (pv 0) (pa_cons pe_int (pa_cons (pe_glob (v := .int (10 ^ 30)) rfl T.g_MOST_DAY ⟨_, rfl⟩) pa_nil)))))) (pss_one (ps_raiseEx rfl T.ex_BadNumber hr (takes_of rfl rfl rfl rfl) (by exact (pa_cons (pv 0) pa_nil)) rfl)) pss_nil)
      (pss_one (ps_ret (pv 0)))),
    run1 h (sns_seq (sns_if (snd_not (snd_tB (snd_call (snd_cons snd_var (snd_cons snd_int (snd_cons snd_int snd_nil)))))) (sns_raise (c := 1) (snd_cons snd_var snd_nil)) sns_next)
  (sns_ret snd_var))⟩)⟩
def m_come_on : VS := (sRet (vTupOf (vLc (iEnT' (vVar 0)) (g2 (gN 2) (g3 (gN 3) (gN 4) (gN 5))) (tV (vEq (vIntC (fun _ j => 0 < j) (fun i j => i % j) (vVar 1) (vVar 4)) (vVar 5))) (vVar 2) [2, 3, 4, 5])))
def F_come_on : List DVal → T DVal := fnT 2 ["parts", "day", "number", "_", "every", "start"] m_come_on
theorem sc_come_on : FnScope ["parts", "day", "number", "_", "every", "start"] ["parts", "day"] (defScope s_come_on) := ⟨rfl, rfl, rfl, by decide +kernel, rfl, by decide +kernel, by decide +kernel⟩
theorem h_come_on (T : Tx P K mg t0 t1 t2 t3 t4 CP fP CN fN CR fR)  : Fd P w K mg base "come_on" ["parts", "day"] CX0 1 (spT (Ts := Ts) (cm := cmS CP CN CR) F_come_on) := by
  obtain ⟨f, fd, A⟩ := T.a_come_on
  have nd := sc_come_on.nd
  exact ⟨f, fd, A.g, A.F.kp, A.b, A.F.ok sc_come_on (fun vs H Q E h => spG_len h fun _ _ _ _ _ z => spT_len z) (fun cdv Ar outer s H vs Q E hr h => ⟨_, (pss_one (ps_ret (pe_callTy (call_tupleK (K := K) rfl) (by rfl) T.n_tuple (by decide +kernel) (pa_cons (pe_lc (own := [("number", 2), ("_", 3), ("every", 4), ("start", 5)]) (g := (gTup K 2 (gCons (gName 2) (gCons (gTup K 3 (gCons (gName 3) (gCons (gName 4) (gCons (gName 5) gNil)))) gNil)))) rfl nd (pi_enT (by rfl) T.n_enumerate (pa_cons (pv 0) pa_nil)) (blkOk_by (N := ["parts", "day", "number", "_", "every", "start"]) (sc := defScope s_come_on) (by decide +kernel)) (fun _ _ _ _ _ => by exact (pg_tup (by rfl) (pgs_cons (pg_name (i := 2) nd rfl (Or.inl rfl)) (pgs_cons (pg_tup (by rfl) (pgs_cons (pg_name (i := 3) nd rfl (Or.inl rfl)) (pgs_cons (pg_name (i := 4) nd rfl (Or.inl rfl)) (pgs_cons (pg_name (i := 5) nd rfl (Or.inl rfl)) pgs_nil)))) pgs_nil)))) (fun _ _ _ _ _ => pts_one (pt_cmpR op_eq (pe_op op_mod (pv 1) (pv 4)) (pv 5) (nomark _))) (fun _ _ _ _ _ => by exact (pv 2))) pa_nil)))),
    run1 h (sns_ret (snd_tupOf (snd_lc (sni_enT snd_var) (sng_two (by with_unfolding_all rfl) sng_name (sng_three (by with_unfolding_all rfl) sng_name sng_name sng_name)) (by decide) (snd_test (snd_eq (snd_opC snd_var snd_var) snd_var)) snd_var)))⟩)⟩
def m_day_by : VS := (sSeq (sDrop (vCallS F_need_parts (aCons (vVar 0) (aCons (vVar 1) aNil))))
  (sRet (vCall F_come_on (aCons (vVar 1) (aCons (vCallS F_need_day_number (aCons (vVar 2) aNil)) aNil)))))
def F_day_by : List DVal → T DVal := fnT 3 ["plan", "parts", "day"] m_day_by
theorem sc_day_by : FnScope ["plan", "parts", "day"] ["plan", "parts", "day"] (defScope s_day_by) := ⟨rfl, rfl, rfl, by decide +kernel, rfl, by decide +kernel, by decide +kernel⟩
theorem h_day_by (T : Tx P K mg t0 t1 t2 t3 t4 CP fP CN fN CR fR) (X_need_parts : Fd P w K mg base "need_parts" ["plan", "parts"] (L2.CX P w) 6 (spT (Ts := Ts) (cm := cmS CP CN CR) F_need_parts)) (X_come_on : Fd P w K mg base "come_on" ["parts", "day"] CX0 1 (spT (Ts := Ts) (cm := cmS CP CN CR) F_come_on)) (X_need_day_number : Fd P w K mg base "need_day_number" ["day"] (L2.CX P w) 3 (spT (Ts := Ts) (cm := cmS CP CN CR) F_need_day_number)) : Fd P w K mg base "day_by" ["plan", "parts", "day"] (L2.CX P w) 7 (spT (Ts := Ts) (cm := cmS CP CN CR) F_day_by) := by
  obtain ⟨f, fd, A⟩ := T.a_day_by
  obtain ⟨_, _, g_need_parts, kp_need_parts, b_need_parts, G_need_parts⟩ := X_need_parts.ex
  obtain ⟨_, _, g_come_on, kp_come_on, b_come_on, G_come_on⟩ := X_come_on.ex
  obtain ⟨_, _, g_need_day_number, kp_need_day_number, b_need_day_number, G_need_day_number⟩ := X_need_day_number.ex
  have nd := sc_day_by.nd
  exact ⟨f, fd, A.g, A.F.kp, A.b, A.F.okX sc_day_by (fun vs H Q E h => spG_len h fun _ _ _ _ _ z => spT_len z) (fun cdv Ar outer s H vs Q E hr h => ⟨_, (pss_cons (ps_expr (pe_callS G_need_parts (hr.mono (by decide)) rfl g_need_parts kp_need_parts b_need_parts (fun σ => passAt (takes_of rfl rfl rfl rfl) σ) (by exact (pa_cons (pv 0) (pa_cons (pv 1) pa_nil)))))
      (pss_one (ps_ret (pe_call G_come_on (hr.mono (by decide)) rfl g_come_on kp_come_on b_come_on .nil pass0 (pa_cons (pv 1) (pa_cons (pe_callS G_need_day_number (hr.mono (by decide)) rfl g_need_day_number kp_need_day_number b_need_day_number (fun σ => passAt (takes_of rfl rfl rfl rfl) σ) (by exact (pa_cons (pv 2) pa_nil))) pa_nil)))))),
    run1 h (sns_seq (sns_drop (snd_callS (snd_cons snd_var (snd_cons snd_var snd_nil))))
  (sns_ret (snd_call (snd_cons snd_var (snd_cons (snd_callS (snd_cons snd_var snd_nil)) snd_nil)))))⟩)⟩
def m_next_by : VS := (sSeq (sUnp (g2 (gN 4) (gN 5)) (vCallS F_need_plan (aCons (vVar 0) aNil)))
  (sSeq (sDrop (vCallS F_need_parts (aCons (vVar 0) (aCons (vVar 1) aNil))))
  (sSeq (sDrop (vCallS F_need_number (aCons (vVar 5) (aCons (vVar 2) aNil))))
  (sSeq (sDrop (vCallS F_need_day_number (aCons (vVar 3) aNil)))
  (sSeq (sUnp (g3 (gN 4) (gN 6) (gN 7)) (vIxT (vVar 1) (vVar 2)))
  (sRet (vInt (fun i j => i + j) (vVar 3) (vIntC (fun _ j => 0 < j) (fun i j => i % j) (vInt (fun i j => i - j) (vVar 7) (vVar 3)) (vVar 6)))))))))
def F_next_by : List DVal → T DVal := fnT 4 ["plan", "parts", "number", "day", "_", "gaps", "every", "start"] m_next_by
theorem sc_next_by : FnScope ["plan", "parts", "number", "day", "_", "gaps", "every", "start"] ["plan", "parts", "number", "day"] (defScope s_next_by) := ⟨rfl, rfl, rfl, by decide +kernel, rfl, by decide +kernel, by decide +kernel⟩
theorem h_next_by (T : Tx P K mg t0 t1 t2 t3 t4 CP fP CN fN CR fR) (X_need_plan : Fd P w K mg base "need_plan" ["thing"] (L2.CX P w) 4 (spT (Ts := Ts) (cm := cmS CP CN CR) F_need_plan)) (X_need_parts : Fd P w K mg base "need_parts" ["plan", "parts"] (L2.CX P w) 6 (spT (Ts := Ts) (cm := cmS CP CN CR) F_need_parts)) (X_need_number : Fd P w K mg base "need_number" ["gaps", "number"] (L2.CX P w) 3 (spT (Ts := Ts) (cm := cmS CP CN CR) F_need_number)) (X_need_day_number : Fd P w K mg base "need_day_number" ["day"] (L2.CX P w) 3 (spT (Ts := Ts) (cm := cmS CP CN CR) F_need_day_number)) : Fd P w K mg base "next_by" ["plan", "parts", "number", "day"] (L2.CX P w) 7 (spT (Ts := Ts) (cm := cmS CP CN CR) F_next_by) := by
  obtain ⟨f, fd, A⟩ := T.a_next_by
  obtain ⟨_, _, g_need_plan, kp_need_plan, b_need_plan, G_need_plan⟩ := X_need_plan.ex
  obtain ⟨_, _, g_need_parts, kp_need_parts, b_need_parts, G_need_parts⟩ := X_need_parts.ex
  obtain ⟨_, _, g_need_number, kp_need_number, b_need_number, G_need_number⟩ := X_need_number.ex
  obtain ⟨_, _, g_need_day_number, kp_need_day_number, b_need_day_number, G_need_day_number⟩ := X_need_day_number.ex
  have nd := sc_next_by.nd
  exact ⟨f, fd, A.g, A.F.kp, A.b, A.F.okX sc_next_by (fun vs H Q E h => spG_len h fun _ _ _ _ _ z => spT_len z) (fun cdv Ar outer s H vs Q E hr h => ⟨_, (pss_cons (ps_asg (pe_callS G_need_plan (hr.mono (by decide)) rfl g_need_plan kp_need_plan b_need_plan (fun σ => passAt (takes_of rfl rfl rfl rfl) σ) (by exact (pa_cons (pv 0) pa_nil))) (pg_tup (by rfl) (pgs_cons (pg_name (i := 4) nd rfl (Or.inl rfl)) (pgs_cons (pg_name (i := 5) nd rfl (Or.inl rfl)) pgs_nil))))
      (pss_cons (ps_expr (pe_callS G_need_parts (hr.mono (by decide)) rfl g_need_parts kp_need_parts b_need_parts (fun σ => passAt (takes_of rfl rfl rfl rfl) σ) (by exact (pa_cons (pv 0) (pa_cons (pv 1) pa_nil)))))
      (pss_cons (ps_expr (pe_callS G_need_number (hr.mono (by decide)) rfl g_need_number kp_need_number b_need_number (fun σ => passAt (takes_of rfl rfl rfl rfl) σ) (by exact (pa_cons (pv 5) (pa_cons (pv 2) pa_nil)))))
      (pss_cons (ps_expr (pe_callS G_need_day_number (hr.mono (by decide)) rfl g_need_day_number kp_need_day_number b_need_day_number (fun σ => passAt (takes_of rfl rfl rfl rfl) σ) (by exact (pa_cons (pv 3) pa_nil))))
      (pss_cons (ps_asg (pe_ix (ix_tupK (K := K) rfl) (pv 1) (pv 2) (fun _ _ => rfl)) (pg_tup (by rfl) (pgs_cons (pg_name (i := 4) nd rfl (Or.inl rfl)) (pgs_cons (pg_name (i := 6) nd rfl (Or.inl rfl)) (pgs_cons (pg_name (i := 7) nd rfl (Or.inl rfl)) pgs_nil)))))
      (pss_one (ps_ret (pe_op op_add (pv 3) (pe_op op_mod (pe_op op_sub (pv 7) (pv 3)) (pv 6)))))))))),
    run1 h (sns_seq (sns_unp (snd_callS (snd_cons snd_var snd_nil)) (sgo_two (by with_unfolding_all rfl) sgo_name sgo_name))
  (sns_seq (sns_drop (snd_callS (snd_cons snd_var (snd_cons snd_var snd_nil))))
  (sns_seq (sns_drop (snd_callS (snd_cons snd_var (snd_cons snd_var snd_nil))))
  (sns_seq (sns_drop (snd_callS (snd_cons snd_var snd_nil)))
  (sns_seq (sns_unp (snd_ixT snd_var snd_var) (sgo_three (by with_unfolding_all rfl) sgo_name sgo_name sgo_name))
  (sns_ret (snd_op0 snd_var (snd_opC (snd_op0 snd_var snd_var) snd_var))))))))⟩)⟩
def m_row_by : VS := (sSeq (sDrop (vCallS F_need_parts (aCons (vVar 0) (aCons (vVar 1) aNil))))
  (sSeq (sIf (tN (tV (vCall F_is_between (aCons (vVar 2) (aCons (vC (.int 0)) (aCons (vC (.int 1000)) aNil)))))) (sRaise 1 "value" (aCons (vVar 2) aNil)) sNext)
  (sRet (vTupOf (vLc (iR1 (vVar 2)) (gN 3) tY (vCall F_come_on (aCons (vVar 1) (aCons (vVar 3) aNil))) [3])))))
def F_row_by : List DVal → T DVal := fnT 3 ["plan", "parts", "many", "day"] m_row_by
theorem sc_row_by : FnScope ["plan", "parts", "many", "day"] ["plan", "parts", "many"] (defScope s_row_by) := ⟨rfl, rfl, rfl, by decide +kernel, rfl, by decide +kernel, by decide +kernel⟩
theorem h_row_by (T : Tx P K mg t0 t1 t2 t3 t4 CP fP CN fN CR fR) (X_need_parts : Fd P w K mg base "need_parts" ["plan", "parts"] (L2.CX P w) 6 (spT (Ts := Ts) (cm := cmS CP CN CR) F_need_parts)) (X_is_between : Fd P w K mg base "is_between" ["value", "low", "high"] CX0 2 (spT (Ts := Ts) (cm := cmS CP CN CR) F_is_between)) (X_come_on : Fd P w K mg base "come_on" ["parts", "day"] CX0 1 (spT (Ts := Ts) (cm := cmS CP CN CR) F_come_on)) : Fd P w K mg base "row_by" ["plan", "parts", "many"] (L2.CX P w) 7 (spT (Ts := Ts) (cm := cmS CP CN CR) F_row_by) := by
  obtain ⟨f, fd, A⟩ := T.a_row_by
  obtain ⟨_, _, g_need_parts, kp_need_parts, b_need_parts, G_need_parts⟩ := X_need_parts.ex
  obtain ⟨_, _, g_is_between, kp_is_between, b_is_between, G_is_between⟩ := X_is_between.ex
  obtain ⟨_, _, g_come_on, kp_come_on, b_come_on, G_come_on⟩ := X_come_on.ex
  have nd := sc_row_by.nd
  exact ⟨f, fd, A.g, A.F.kp, A.b, A.F.okX sc_row_by (fun vs H Q E h => spG_len h fun _ _ _ _ _ z => spT_len z) (fun cdv Ar outer s H vs Q E hr h => ⟨_, (pss_cons (ps_expr (pe_callS G_need_parts (hr.mono (by decide)) rfl g_need_parts kp_need_parts b_need_parts (fun σ => passAt (takes_of rfl rfl rfl rfl) σ) (by exact (pa_cons (pv 0) (pa_cons (pv 1) pa_nil)))))
      (pss_cons (ps_if (pt_not (pt_val (pe_call G_is_between (hr.mono (by decide)) rfl g_is_between kp_is_between b_is_between .nil pass0 (pa_cons (pv 2) (pa_cons pe_int (pa_cons (pe_glob (v := .int 1000) rfl T.g_MOST_ROW ⟨_, rfl⟩) pa_nil)))))) (pss_one (ps_raiseEx rfl T.ex_BadNumber hr (takes_of rfl rfl rfl rfl) (by exact (pa_cons (pv 2) pa_nil)) rfl)) pss_nil)
      (pss_one (ps_ret (pe_callTy (call_tupleK (K := K) rfl) (by rfl) T.n_tuple (by decide +kernel) (pa_cons (pe_lc (own := [("day", 3)]) (g := (gName 3)) (tt := tYes) rfl nd (pi_range1 (by rfl) T.n_range (pa_cons (pv 2) pa_nil)) (blkOk_by (N := ["plan", "parts", "many", "day"]) (sc := defScope s_row_by) (by decide +kernel)) (fun _ _ _ _ _ => by exact (pg_name (i := 3) nd rfl (Or.inl rfl))) (fun _ _ _ _ _ => pts_nil) (fun _ _ _ _ _ => by exact (pe_call G_come_on (hr.mono (by decide)) rfl g_come_on kp_come_on b_come_on .nil pass0 (pa_cons (pv 1) (pa_cons (pv 3) pa_nil))))) pa_nil)))))),
    run1 h (sns_seq (sns_drop (snd_callS (snd_cons snd_var (snd_cons snd_var snd_nil))))
  (sns_seq (sns_if (snd_not (snd_tB (snd_call (snd_cons snd_var (snd_cons snd_int (snd_cons snd_int snd_nil)))))) (sns_raise (c := 1) (snd_cons snd_var snd_nil)) sns_next)
  (sns_ret (snd_tupOf (snd_lc (sni_rng1 snd_var) sng_name (by decide) snd_yes (snd_call (snd_cons snd_var (snd_cons snd_var snd_nil))))))))⟩)⟩
end
end K13
set_option Elab.async false
set_option linter.all false
set_option maxRecDepth 100000
set_option maxHeartbeats 4000000
namespace K13
open PySem L2 Gd PySem.ExG DC CpComb LamX RZ
set_option exponentiation.threshold 10000
theorem dpv_ints {K : PySem.W.Frag} {H : Hp} : ∀ ps : List Int, DpAll K H (ps.map V.int) (ps.map PyData.int)
  | [] => .nil
  | i :: r => .cons (.int i) (dpv_ints r)
theorem Same.new {H : Hp} {p : Addr} {o : HO} (h : H p = none) : Same H (upd H p o) := fun b u e => by rw [upd_ne (ne_of_none e h)]; exact e
/-! ### the top's names -/
structure Txt (K : PySem.W.Frag) (mg : Str → Option Value) : Prop where
  int : mg "int" = none
  len : mg "len" = none

theorem modB (x : Int) {k : Int} (h : 0 < k) (h2 : k < 2 ^ 64) : -(2 ^ 64) < x % k ∧ x % k < 2 ^ 64 := by
  have a1 := Int.emod_nonneg x (b := k) (by omega)
  have a2 := Int.emod_lt_of_pos x (b := k) h
  omega
/-- _law_draw(m, many): a number from 0 to below many; one draw more -/
def spDraw : Sp := fun vs H Q _ => ∃ (m c : Addr) (many : Int) (n : Nat), vs = [.ref m, .int many] ∧ MOk H m c n ∧ n ≤ 100000 ∧ 0 < many ∧ many.natAbs < 2 ^ 8000 ∧
  ∀ (r : Int) (H' : Hp), 0 ≤ r → r < many → MOk H' m c (n + 1) → Grow m H H' → Q (.int r) H'
section
variable {P : Program} {w : World} {K : PySem.W.Frag} {mg : Str → Option Value} {base : Heap}
theorem scDraw : FnScope ["m", "many", "found", "spot", "cells", "added", "cell", "blend"] ["m", "many"] (defScope s_law_draw) := ⟨rfl, rfl, rfl, by decide +kernel, rfl, by decide +kernel, by decide +kernel⟩
theorem ok_draw {f : Addr} {fd : FuncData} (F : Fun K "_law_draw" "_law_draw" s_law_draw f fd) (T : Txt K mg) : FnOk P w K mg base CX0 1 f fd ["m", "many"] spDraw := by
  refine F.ok scDraw (fun vs H Q E h => ?_) (fun cdv A outer s H vs Q E hr h => ?_)
  · obtain ⟨m, c, many, n, rfl, _⟩ := h
    rfl
  · obtain ⟨m, c, many, n, rfl, M, hn, h0, h1, k⟩ := h
    have hu := hu_of hr
    obtain ⟨l, sd, sp, cs, e1, e2, c0, c1, s0, s1⟩ := M.ex
    have nd := scDraw.nd
    have mc : c ≠ m := ne_of e2 e1 (by intro z; cases z)
    refine ⟨_, pss_cons (ps_if (pt_cmpR op_gt (pe_dget hu (pv 0) pe_str (fun _ _ => rfl)) pe_int (nomark _))
        (pss_cons (ps_set (i := 2) nd rfl (Or.inl rfl) (pe_op op_mod (pe_callTy call_int1 (by rfl) T.int (by decide +kernel) (pa_cons (pe_dget hu (pv 0) pe_str (fun _ _ => rfl)) pa_nil)) (pv 1)))
        (pss_cons (ps_dput hu (pv 0) pe_str (pe_op op_fdivW (pe_dget hu (pv 0) pe_str (fun _ _ => rfl)) (pv 1)) rfl)
        (pss_one (ps_ret (pv 2))))) pss_nil)
      (pss_cons (ps_set (i := 3) nd rfl (Or.inl rfl) (pe_dget hu (pv 0) pe_str (fun _ _ => rfl)))
      (pss_cons (ps_dput hu (pv 0) pe_str (pe_op op_add (pv 3) pe_int) rfl)
      (pss_cons (ps_par (i := 4) (j := 5) (by rfl) nd rfl rfl (by decide) rfl rfl (pa_cons (pe_dget hu (pv 0) pe_str (fun _ _ => rfl))
          (pa_cons (pe_op op_add (pe_dget hu (pv 0) pe_str (fun _ _ => rfl)) (pe_op op_mul (pe_op op_mul pe_int (pv 3)) (pv 3))) pa_nil)) (by rfl))
      (pss_cons (ps_set (i := 6) nd rfl (Or.inl rfl) (pe_ix ix_list (pv 4) (pe_op op_mod (pe_callTy call_int1 (by rfl) T.int (by decide +kernel) (pa_cons (pv 3) pa_nil))
          (pe_callB call_len_seq (by rfl) T.len PySem.boot_len (pa_cons (pv 4) pa_nil))) (fun _ _ => rfl)))
      (pss_cons (ps_set (i := 7) nd rfl (Or.inl rfl) (pe_op op_mod (pe_callTy call_int1 (by rfl) T.int (by decide +kernel)
          (pa_cons (pe_op op_add (pe_op op_mul (pv 6) (pe_op op_add (pe_op op_mul pe_int (pv 3)) pe_int)) (pv 5)) pa_nil)) pe_int))
      (pss_cons (ps_set (i := 7) nd rfl (Or.inl rfl) (pe_op op_mod (pe_callTy call_int1 (by rfl) T.int (by decide +kernel)
          (pa_cons (pe_op op_add (pe_op op_add (pe_op op_mul (pv 7) (pv 7)) (pe_op op_mul pe_int (pv 3))) (pe_dget hu (pv 0) pe_str (fun _ _ => rfl))) pa_nil)) pe_int))
      (pss_one (ps_ret (pe_op op_mod (pe_op op_fdiv (pe_op op_mod (pe_callTy call_int1 (by rfl) T.int (by decide +kernel)
          (pa_cons (pe_op op_add (pe_op op_mul (pv 7) pe_int) (pv 3)) pa_nil)) pe_int) pe_int) (pv 1)))))))))), ?_⟩
    refine ⟨_, rfl, m, _, rfl, g_left e1, _, _, rfl, rfl, _, rfl, ?_⟩
    refine ite2 (fun hl => ?_) (fun hl => ?_)
    · -- the digits of a great cell
      refine ⟨_, rfl, m, _, rfl, g_left e1, .inl ⟨_, rfl, ?_⟩⟩
      refine ⟨_, rfl, _, _, rfl, rfl, h0, ?_⟩
      refine ⟨_, rfl, m, _, rfl, g_left e1, _, rfl, _, _, rfl, rfl, wide_div h0 h1 (by decide) (by decide), ?_⟩
      refine ⟨_, rfl, m, _, rfl, u_left _ e1, ?_⟩
      refine ⟨_, rfl, ?_⟩
      refine k _ _ (Int.emod_nonneg _ (by omega)) (Int.emod_lt_of_pos _ h0) ⟨⟨_, sd, sp, cs, upd_same, by rw [upd_ne mc]; exact e2, c0, c1, s0, by omega⟩⟩ (Grow.upd _ _ _)
    · have e1' : upd H m (.dK (mD l sd c (sp + 1))) m = some (.dK (mD l sd c (sp + 1))) := upd_same
      have e2' : upd H m (.dK (mD l sd c (sp + 1))) c = some (.lst (cs.map V.int)) := by rw [upd_ne mc]; exact e2
      have hsp : (-(2 ^ 64) < sp ∧ sp < 2 ^ 64) := by omega
      have h3 : (-(2 ^ 64) < 2 * sp + 3 ∧ 2 * sp + 3 < 2 ^ 64) := by omega
      have hx : ∃ i : Nat, sp % ((cs.map V.int).length : Int) = (i : Int) ∧ ∃ z, cs[i]? = some z := by
        rw [List.length_map]
        have a1 := Int.emod_nonneg sp (b := (cs.length : Int)) (by omega)
        have a2 := Int.emod_lt_of_pos sp (b := (cs.length : Int)) (by omega)
        refine ⟨(sp % (cs.length : Int)).toNat, by omega, ?_⟩
        have a3 : (sp % (cs.length : Int)).toNat < cs.length := by omega
        exact ⟨_, List.getElem?_eq_getElem a3⟩
      obtain ⟨i, hi, z, hz⟩ := hx
      have hz' : (cs.map V.int)[i]? = some (.int z) := by rw [List.getElem?_map, hz]; rfl
      -- spot = m['spot']; m['spot'] = spot + 1
      refine ⟨_, rfl, m, _, rfl, g_spot e1, ?_⟩
      refine ⟨_, rfl, _, _, rfl, rfl, _, rfl, m, _, rfl, u_spot _ e1, ?_⟩
      -- cells, added
      refine ⟨_, rfl, m, _, rfl, g_cells e1', ?_⟩
      refine ⟨_, rfl, m, _, rfl, g_seed e1', ?_⟩
      refine ⟨_, rfl, _, _, rfl, rfl, .inr hsp, ?_⟩
      refine ⟨_, rfl, _, _, rfl, rfl, .inr hsp, ?_⟩
      refine ⟨_, _, rfl, rfl, ?_⟩
      refine ⟨_, _, rfl, ?_⟩
      -- cell
      refine ⟨_, rfl, ?_⟩
      refine ⟨_, rfl, .inl ⟨_, rfl, ?_⟩⟩
      refine ⟨_, rfl, c, _, rfl, .inl (SqL.of e2'), ?_⟩
      refine ⟨_, _, rfl, rfl, (by rw [List.length_map]; omega), ?_⟩
      refine ⟨c, _, _, _, rfl, rfl, SqL.of e2', (by rw [hi]; exact atI_nat hz'), ?_⟩
      -- blend
      refine ⟨_, rfl, ?_⟩
      refine ⟨_, rfl, _, _, rfl, rfl, .inl ⟨by decide, by decide⟩, ?_⟩
      refine ⟨_, _, rfl, rfl, ?_⟩
      refine ⟨_, _, rfl, rfl, .inr h3, ?_⟩
      refine ⟨_, rfl, _, _, rfl, rfl, .inl ⟨_, rfl, ?_⟩⟩
      refine ⟨_, _, rfl, rfl, (by show (0 : Int) < 2147483647; decide), ?_⟩
      -- blend
      refine ⟨_, rfl, _, rfl, _, _, rfl, rfl, .inl (modB _ (by decide) (by decide)), ?_⟩
      refine ⟨_, rfl, _, _, rfl, rfl, .inr hsp, ?_⟩
      refine ⟨_, _, rfl, rfl, ?_⟩
      refine ⟨_, rfl, m, _, rfl, g_seed e1', ?_⟩
      refine ⟨_, _, rfl, rfl, .inl ⟨_, rfl, ?_⟩⟩
      refine ⟨_, _, rfl, rfl, (by show (0 : Int) < 2147483629; decide), ?_⟩
      -- the end
      refine ⟨_, rfl, _, _, rfl, rfl, .inl (modB _ (by decide) (by decide)), ?_⟩
      refine ⟨_, rfl, _, _, rfl, rfl, .inl ⟨_, rfl, ?_⟩⟩
      refine ⟨_, _, rfl, rfl, (by show (0 : Int) < 2147483647; decide), ?_⟩
      refine ⟨_, _, rfl, rfl, ⟨by decide, by decide⟩, ?_⟩
      refine ⟨_, rfl, _, _, rfl, rfl, h0, ?_⟩
      refine k _ _ (Int.emod_nonneg _ (by omega)) (Int.emod_lt_of_pos _ h0) ⟨⟨l, sd, _, cs, upd_same, e2', c0, c1, by omega, by omega⟩⟩ (Grow.upd _ _ _)
end
theorem cut_ints (ns : List Int) (lo hi : Option Int) : ∃ ms : List Int, cutV (ns.map V.int) lo hi = ms.map V.int ∧ ms.length ≤ ns.length := by
  refine ⟨(ns.drop (HT.sIx (ns.map V.int).length 0 lo)).take (HT.sIx (ns.map V.int).length (ns.map V.int).length hi - HT.sIx (ns.map V.int).length 0 lo), ?_, ?_⟩
  · unfold cutV
    rw [List.map_take, List.map_drop]
  · rw [List.length_take, List.length_drop]
    omega
theorem merge_mD (l sd : Int) (c : Addr) (sp : Int) : mergeK [] [((.inr "left" : Key), V.int l), ((.inr "seed" : Key), .int sd), ((.inr "cells" : Key), .ref c), ((.inr "spot" : Key), .int sp)] = mD l sd c sp := by
  have h1 := inr_ne sne1
  have h2 := inr_ne sne2
  have h3 := inr_ne sne3
  have h4 := inr_ne sne4
  have h5 := inr_ne sne5
  have h6 := inr_ne sne6
  simp [mergeK, putK, h1, h2, h3, h4, h5, h6, mD]
/-- _law_begun(script, k): the draws' state, new -/
def spBegun (K : PySem.W.Frag) : Sp := fun vs H Q _ => ∃ (a : Addr) (ns : List Int) (k : Int), vs = [.ref a, .int k] ∧ SqL K H a (ns.map V.int) ∧ ns.length ≤ 63 ∧ 0 ≤ k ∧ k ≤ 100 ∧
  ∀ (m c : Addr) (H' : Hp), H m = none → MOk H' m c 0 → Same H H' → Q (.ref m) H'
section
variable {P : Program} {w : World} {K : PySem.W.Frag} {mg : Str → Option Value} {base : Heap}
theorem scBegun : FnScope ["script", "k", "cells", "cell", "great", "seed"] ["script", "k"] (defScope s_law_begun) := ⟨rfl, rfl, rfl, by decide +kernel, rfl, by decide +kernel, by decide +kernel⟩
theorem ok_begun {f : Addr} {fd : FuncData} (F : Fun K "_law_begun" "_law_begun" s_law_begun f fd) (T : Txt K mg) : FnOk P w K mg base CX0 1 f fd ["script", "k"] (spBegun K) := by
  refine F.ok scBegun (fun vs H Q E h => ?_) (fun cdv A outer s H vs Q E hr h => ?_)
  · obtain ⟨a, ns, k, rfl, _⟩ := h
    rfl
  · obtain ⟨a, ns, k, rfl, hS, hl, k0, k1, kq⟩ := h
    have nd := scBegun.nd
    refine ⟨_, pss_cons (ps_set (i := 2) nd rfl (Or.inl rfl) (pe_op op_cat (pe_slice sl_list (pv 0) (po_some (pv 1)) po_none) (pe_slice sl_list (pv 0) po_none (po_some (pv 1)))))
      (pss_cons (ps_setLc (i := 4) (own := [("cell", 3)]) (g := gName 3) rfl nd rfl rfl (sw_true rfl rfl rfl (by decide +kernel)) (pi_list (pv 2))
          (blkOk_by (N := ["script", "k", "cells", "cell", "great", "seed"]) (sc := defScope s_law_begun) (by decide +kernel))
          (fun _ _ _ _ _ => by exact (pg_name (i := 3) nd rfl (Or.inl rfl)))
          (fun _ _ _ _ _ => pts_one (pt_cmpR op_ge (pv 3) (pe_op op_pow pe_int pe_int) (nomark _)))
          (fun _ _ _ _ _ => pv 3))
      (pss_cons (ps_set (i := 5) nd rfl (Or.inl rfl) (pe_op op_add pe_int (pv 1)))
      (pss_cons (ps_for PassesOwn.never rfl (pi_list (pv 2)) (pg_name (i := 3) nd rfl (Or.inl rfl))
        (pss_one (ps_set (i := 5) nd rfl (Or.inl rfl) (pe_op op_mod (pe_callTy call_int1 (by rfl) T.int (by decide +kernel) (pa_cons (pe_op op_add (pe_op op_mul (pv 5) pe_int) (pv 3)) pa_nil)) pe_int))))
      (pss_one (ps_ret (pe_disp (pps_cons pe_str (pe_ifExp (pt_cmpR (op_neD hr.units) (pv 4) (pe_lst pa_nil) (nomark _)) (pe_ix ix_list (pv 4) pe_int (fun _ _ => rfl)) pe_int)
        (pps_cons pe_str (pv 5) (pps_cons pe_str (pe_op op_cat (pv 2) (pe_lst (pa_cons (pe_op op_add (pe_op op_mul pe_int (pv 1)) pe_int) pa_nil))) (pps_cons pe_str pe_int pps_nil))))
        (by rfl) (by rfl) (fun z => by cases z) (by decide))))))), ?_⟩
    have sz : ∀ k : Nat, k ≤ 5000 → k ≤ sizeLine := fun k h => Nat.le_trans h (by rw [sizeLine_eq]; decide)
    obtain ⟨ms1, e1, l1⟩ := cut_ints ns (some k) none
    obtain ⟨ms2, e2, l2⟩ := cut_ints ns none (some k)
    -- cells
    refine ⟨_, rfl, _, rfl, _, rfl, a, _, rfl, hS, fun p1 h1 => ?_⟩
    rw [e1]
    have s1 := Same.new (o := .lst (ms1.map V.int)) h1
    refine ⟨_, rfl, _, rfl, _, rfl, a, _, rfl, s1.seq hS, fun p2 h2 => ?_⟩
    rw [e2]
    have s2 := s1.trans (Same.new (o := .lst (ms2.map V.int)) h2)
    refine ⟨p1, p2, _, _, rfl, rfl, Same.new h2 _ _ upd_same, upd_same, sz _ (by rw [List.length_map, List.length_map]; omega), fun p3 h3 => ?_⟩
    rw [← List.map_append]
    have s3 := s2.trans (Same.new (o := .lst ((ms1 ++ ms2).map V.int)) h3)
    have lc : (ms1 ++ ms2).length ≤ 126 := by rw [List.length_append]; omega
    generalize hG : upd (upd (upd H p1 (.lst (ms1.map V.int))) p2 (.lst (ms2.map V.int))) p3 (.lst ((ms1 ++ ms2).map V.int)) = H3 at s3 ⊢
    have hc : H3 p3 = some (.lst ((ms1 ++ ms2).map V.int)) := by rw [← hG]; exact upd_same
    -- great
    refine ⟨_, rfl, p3, rfl, ⟨_, SqL.of hc⟩, fun D hD => ?_⟩
    refine lc_list (K := K) (a := p3) (xs := (ms1 ++ ms2).map V.int) (fun i H' => Same H3 H' ∧ ∃ acc : List Int, H' D = some (.lst (acc.map V.int)) ∧ acc.length ≤ i)
      ⟨Same.new hD, [], upd_same, Nat.le_refl _⟩ (fun i H' _ ⟨s4, _⟩ => SqL.of (s4 _ _ hc)) ?_ ?_
    · rintro i x H4 hx ⟨s4, acc, ha, hac⟩
      have hi : i < 126 := by
        have := (List.getElem?_eq_some_iff.mp hx).1
        rw [List.length_map] at this
        omega
      obtain ⟨z, rfl⟩ : ∃ z, x = V.int z := by
        rw [List.getElem?_map] at hx
        cases e : (ms1 ++ ms2)[i]? with
        | none =>
          rw [e] at hx
          cases hx
        | some z =>
          rw [e] at hx
          exact ⟨z, (Option.some.inj hx).symm⟩
      refine ⟨rfl, _, rfl, _, _, rfl, rfl, ⟨by decide, by decide, by decide⟩, _, _, rfl, rfl, _, rfl, ?_⟩
      refine ite2 (fun _ => ?_) (fun _ => ?_)
      · refine ⟨_, rfl, _, ha, ?_, ?_⟩
        · rw [List.length_map, sizeLine_eq]
          omega
        · refine ⟨fun b o q => ?_, acc ++ [z], ?_, ?_⟩
          · rw [upd_ne (ne_of_none q hD)]
            exact s4 b o q
          · rw [upd_same, List.map_append]
            rfl
          · rw [List.length_append]
            exact Nat.succ_le_succ hac
      · exact ⟨s4, acc, ha, Nat.le_succ_of_le hac⟩
    · rintro H4 ⟨s4, acc, ha, hac⟩
      -- seed
      refine ⟨_, rfl, _, _, rfl, rfl, ?_⟩
      refine ⟨_, rfl, p3, rfl, ⟨_, SqL.of (s4 _ _ hc)⟩, for_list (K := K) (a := p3) (xs := (ms1 ++ ms2).map V.int)
        (fun i σ H' => ∃ (c5 : Option V) (sd : Int), σ = [some (.ref a), some (.int k), some (.ref p3), c5, some (.ref D), some (.int sd)] ∧ Same H4 H') ⟨none, _, rfl, Same.refl _⟩
        (fun i σ H' _ ⟨_, _, _, s5⟩ => SqL.of (s5 _ _ (s4 _ _ hc))) ?_ ?_⟩
      · rintro i x σ H5 hx ⟨c5, sd, rfl, s5⟩
        obtain ⟨z, rfl⟩ : ∃ z, x = V.int z := by
          rw [List.getElem?_map] at hx
          cases e : (ms1 ++ ms2)[i]? with
          | none =>
            rw [e] at hx
            cases hx
          | some z =>
            rw [e] at hx
            exact ⟨z, (Option.some.inj hx).symm⟩
        refine ⟨_, rfl, _, _, rfl, rfl, .inr ⟨by decide, by decide⟩, _, rfl, _, _, rfl, rfl, .inl ⟨_, rfl, ?_⟩⟩
        refine ⟨_, _, rfl, rfl, (by show (0 : Int) < 2147483647; decide), ?_⟩
        exact ⟨_, _, rfl, s5⟩
      · rintro σ H5 ⟨c5, sd, rfl, s5⟩
        have ha5 := s5 _ _ ha
        have hc5 := s5 _ _ (s4 _ _ hc)
        intro m hm
        have s6 := Same.new (o := .dK []) hm
        have hm0 : H m = none := (s3.trans (s4.trans s5)).free hm
        have tot := (s3.trans (s4.trans s5))
        refine ⟨_, rfl, Nat.zero_le _, fun q1 hq1 => ?_⟩
        have s7 := s6.trans (Same.new (o := .lst []) hq1)
        have hmm : upd (upd H5 m (.dK [])) q1 (.lst []) m = some (.dK []) := Same.new hq1 _ _ upd_same
        refine ⟨.list (acc.map .int), .list [], .lst (SqL.of (s7 _ _ ha5)) (dpv_ints acc), .lst (SqL.of upd_same) .nil, PySem.W.ke_shaped_ints acc, PySem.W.ke_shaped_ints [], _, rfl, ?_⟩
        have kb : CMul 37 k := .inl ⟨by decide, by decide⟩
        have fin : ∀ (l : Int) (q2 q3 : Addr) (o2 o3 : HO), upd (upd H5 m (.dK [])) q1 (.lst []) q2 = none → upd (upd (upd H5 m (.dK [])) q1 (.lst [])) q2 o2 q3 = none →
            o3 = .lst ((ms1 ++ ms2).map V.int ++ [V.int (37 * k + 11)]) →
            Q (.ref m) (upd (upd (upd (upd (upd H5 m (.dK [])) q1 (.lst [])) q2 o2) q3 o3) m (.dK (mergeK [] [((.inr "left" : Key), V.int l), ((.inr "seed" : Key), .int sd), ((.inr "cells" : Key), .ref q3), ((.inr "spot" : Key), .int 0)]))) := by
          intro l q2 q3 o2 o3 h2 h3 ho
          rw [merge_mD]
          have m2 : upd (upd (upd H5 m (.dK [])) q1 (.lst [])) q2 o2 m = some (.dK []) := Same.new h2 _ _ hmm
          have n3 : q3 ≠ m := (ne_of_none m2 h3).symm
          refine kq m q3 _ hm0 ⟨⟨l, sd, 0, (ms1 ++ ms2) ++ [37 * k + 11], upd_same, ?_, ?_, ?_, Int.le_refl _, Int.le_refl _⟩⟩ ?_
          · rw [upd_ne n3, upd_same, ho]
            simp only [List.map_append, List.map_cons, List.map_nil]
          · rw [List.length_append]
            exact Nat.succ_pos _
          · rw [List.length_append]
            show (ms1 ++ ms2).length + 1 ≤ 200
            omega
          · intro b o hb
            have hb5 := tot b o hb
            rw [upd_ne (ne_of_none hb hm0)]
            exact Same.new h3 _ _ (Same.new h2 _ _ (s7 _ _ hb5))
        cases acc with
        | nil =>
          refine iteF ?_
          refine ⟨_, rfl, _, rfl, _, rfl, _, _, rfl, rfl, kb, _, _, rfl, rfl, sz 1 (by decide), fun q2 h2 => ?_⟩
          refine ⟨p3, q2, _, _, rfl, rfl, Same.new h2 _ _ (s7 _ _ hc5), upd_same, sz _ (by rw [List.length_map]; simp only [List.length_cons, List.length_nil]; omega), fun q3 h3 => ?_⟩
          exact ⟨Same.new h3 _ _ (Same.new h2 _ _ hmm), [((.inr "left" : Key), V.int 0), ((.inr "seed" : Key), .int sd), ((.inr "cells" : Key), .ref q3), ((.inr "spot" : Key), .int 0)], rfl, (by simp), fin 0 q2 q3 _ _ h2 h3 rfl⟩
        | cons j acc =>
          refine iteT ⟨_, rfl, D, _, _, _, rfl, rfl, SqL.of (s7 _ _ ha5), atI_nat (j := 0) rfl, ?_⟩
          refine ⟨_, rfl, _, rfl, _, rfl, _, _, rfl, rfl, kb, _, _, rfl, rfl, sz 1 (by decide), fun q2 h2 => ?_⟩
          refine ⟨p3, q2, _, _, rfl, rfl, Same.new h2 _ _ (s7 _ _ hc5), upd_same, sz _ (by rw [List.length_map]; simp only [List.length_cons, List.length_nil]; omega), fun q3 h3 => ?_⟩
          exact ⟨Same.new h3 _ _ (Same.new h2 _ _ hmm), [((.inr "left" : Key), V.int j), ((.inr "seed" : Key), .int sd), ((.inr "cells" : Key), .ref q3), ((.inr "spot" : Key), .int 0)], rfl, (by simp), fin j q2 q3 _ _ h2 h3 rfl⟩
end

end K13
set_option Elab.async false
set_option linter.all false
set_option maxRecDepth 100000
set_option maxHeartbeats 4000000
namespace K13
open PySem L2 Gd PySem.ExG DC CpComb LamX RZ
set_option exponentiation.threshold 10000
section
variable {P : Program} {w : World} {K : PySem.W.Frag} {mg : Str → Option Value} {base : Heap} {t0 t1 t2 t3 t4 : Tok} {CP fP CN fN CR fR : Addr} {CT : Addr} {Ts : List (Addr × Str)}
theorem h_law_draw (T : Tx P K mg t0 t1 t2 t3 t4 CP fP CN fN CR fR) : Fd P w K mg base "_law_draw" ["m", "many"] CX0 1 (spT (Ts := Ts) (cm := cmS CP CN CR) F_law_draw) := by
  obtain ⟨f, fd, A⟩ := T.a_law_draw
  refine ⟨f, fd, A.g, A.F.kp, A.b, (ok_draw A.F ⟨T.n_int, T.n_len⟩).imp fun vs H Q E h => ?_⟩
  obtain ⟨C, n, xs, P, X, i, r, ⟨hT, h1⟩, k, _⟩ := h
  unfold F_law_draw at h1
  split at h1
  · next m many =>
    obtain ⟨⟨a, c, rfl, hm⟩, hn, h0, hb, p⟩ := h1
    obtain ⟨v, u, rfl, r1, r2⟩ := repL2 r
    have e1 : v = .ref a := r1
    have e2 := da_int r2
    subst e1 e2
    refine ⟨a, c, many, n, rfl, hm.get i, hn, h0, hb, fun r H' r0 r1 M g => ?_⟩
    obtain ⟨j1, j2⟩ := hm.put i M g
    exact k _ _ (n + 1) H' j1 j2 (.int r) (p r r0 r1)
  · exact h1.elim
end
section
variable {P : Program} {w : World} {K : PySem.W.Frag} {mg : Str → Option Value} {base : Heap} {t0 t1 t2 t3 t4 : Tok} {CP fP CN fN CR fR : Addr} {CT : Addr} {Ts : List (Addr × Str)}
def m_law_of : VS := (sRet (vIxL (vVar 1) (vCall F_law_draw (aCons (vVar 0) (aCons (vLen (vVar 1)) aNil)))))
def F_law_of : List DVal → T DVal := fnT 2 ["m", "some"] m_law_of
theorem sc_law_of : FnScope ["m", "some"] ["m", "some"] (defScope s_law_of) := ⟨rfl, rfl, rfl, by decide +kernel, rfl, by decide +kernel, by decide +kernel⟩
theorem h_law_of (T : Tx P K mg t0 t1 t2 t3 t4 CP fP CN fN CR fR) (X_law_draw : Fd P w K mg base "_law_draw" ["m", "many"] CX0 1 (spT (Ts := Ts) (cm := cmS CP CN CR) F_law_draw)) : Fd P w K mg base "_law_of" ["m", "some"] CX0 2 (spT (Ts := Ts) (cm := cmS CP CN CR) F_law_of) := by
  obtain ⟨f, fd, A⟩ := T.a_law_of
  obtain ⟨_, _, g_law_draw, kp_law_draw, b_law_draw, G_law_draw⟩ := X_law_draw.ex
  have nd := sc_law_of.nd
  exact ⟨f, fd, A.g, A.F.kp, A.b, A.F.ok sc_law_of (fun vs H Q E h => spG_len h fun _ _ _ _ _ z => spT_len z) (fun cdv Ar outer s H vs Q E hr h => ⟨_, (pss_one (ps_ret (pe_ix (ix_listK (K := K) rfl) (pv 1) (pe_call G_law_draw (hr.mono (by decide)) rfl g_law_draw kp_law_draw b_law_draw .nil pass0 (pa_cons (pv 0) (pa_cons (pe_callB (call_lenK (K := K) rfl) (by rfl) T.n_len PySem.boot_len (pa_cons (pv 1) pa_nil)) pa_nil))) (fun _ _ => rfl)))),
    run1 h (sns_ret (snd_ixL snd_var (snd_call (snd_cons snd_var (snd_cons (snd_len snd_var) snd_nil)))))⟩)⟩
def m_law_go : VS := (sSeq (sAsg 3 (vTupOf (vLc (iEnT' (vVar 1)) (g2 (gN 4) (gN 5)) tY (vIf (tV (vInI false (vVar 4) (vVar 2))) (vC (.int 0)) (vInt (fun i j => i + j) (vVar 5) (vC (.int 1)))) [4, 5])))
  (sSeq (sAsg 6 (vLc (iZipTT (vVar 3) (vIxT (vVar 0) (vC (.int 1)))) (g2 (gN 5) (gN 7)) (tV (vCmp (fun i j => decide (j ≤ i)) (vVar 5) (vVar 7))) (vC (.int 1)) [5, 7]))
  (sRet (vIf (tV (vNeD (vVar 6) (vLst aNil))) (vC .none) (vVar 3)))))
def F_law_go : List DVal → T DVal := fnT 3 ["frame", "ages", "lot", "later", "k", "age", "over", "gap"] m_law_go
theorem sc_law_go : FnScope ["frame", "ages", "lot", "later", "k", "age", "over", "gap"] ["frame", "ages", "lot"] (defScope s_law_go) := ⟨rfl, rfl, rfl, by decide +kernel, rfl, by decide +kernel, by decide +kernel⟩
theorem h_law_go (T : Tx P K mg t0 t1 t2 t3 t4 CP fP CN fN CR fR)  : Fd P w K mg base "_law_go" ["frame", "ages", "lot"] CX0 1 (spT (Ts := Ts) (cm := cmS CP CN CR) F_law_go) := by
  obtain ⟨f, fd, A⟩ := T.a_law_go
  have nd := sc_law_go.nd
  exact ⟨f, fd, A.g, A.F.kp, A.b, A.F.ok sc_law_go (fun vs H Q E h => spG_len h fun _ _ _ _ _ z => spT_len z) (fun cdv Ar outer s H vs Q E hr h => ⟨_, (pss_cons (ps_set (i := 3) nd rfl (Or.inl rfl) (pe_callTy (call_tupleK (K := K) rfl) (by rfl) T.n_tuple (by decide +kernel) (pa_cons (pe_lc (own := [("k", 4), ("age", 5)]) (g := (gTup K 2 (gCons (gName 4) (gCons (gName 5) gNil)))) (tt := tYes) rfl nd (pi_enT (by rfl) T.n_enumerate (pa_cons (pv 1) pa_nil)) (blkOk_by (N := ["frame", "ages", "lot", "later", "k", "age", "over", "gap"]) (sc := defScope s_law_go) (by decide +kernel)) (fun _ _ _ _ _ => by exact (pg_tup (by rfl) (pgs_cons (pg_name (i := 4) nd rfl (Or.inl rfl)) (pgs_cons (pg_name (i := 5) nd rfl (Or.inl rfl)) pgs_nil)))) (fun _ _ _ _ _ => pts_nil) (fun _ _ _ _ _ => by exact (pe_ifExp (pt_cmpR (op_inK (K := K) rfl) (pv 4) (pv 2) (by rfl)) pe_int (pe_op op_add (pv 5) pe_int)))) pa_nil)))
      (pss_cons (ps_setLc (i := 6) (own := [("age", 5), ("gap", 7)]) (g := (gTup K 2 (gCons (gName 5) (gCons (gName 7) gNil)))) rfl nd rfl rfl (sw_true rfl rfl rfl (by decide +kernel)) (RZ.pi_zipA (by rfl) T.n_zip (pa_cons (pv 3) (pa_cons (pe_ix (ix_tupK (K := K) rfl) (pv 0) pe_int (fun _ _ => rfl)) pa_nil))) (blkOk_by (N := ["frame", "ages", "lot", "later", "k", "age", "over", "gap"]) (sc := defScope s_law_go) (by decide +kernel)) (fun _ _ _ _ _ => by exact (pg_tup (by rfl) (pgs_cons (pg_name (i := 5) nd rfl (Or.inl rfl)) (pgs_cons (pg_name (i := 7) nd rfl (Or.inl rfl)) pgs_nil)))) (fun _ _ _ _ _ => pts_one (pt_cmpR op_ge (pv 5) (pv 7) (nomark _))) (fun _ _ _ _ _ => by exact pe_int))
      (pss_one (ps_ret (pe_ifExp (pt_cmpR (op_neDK (K := K) rfl hr.units) (pv 6) (pe_lst pa_nil) (nomark _)) pe_non (pv 3)))))),
    run1 h (sns_seq (sns_asg (snd_tupOf (snd_lc (sni_enT snd_var) (sng_two (by with_unfolding_all rfl) sng_name sng_name) (by decide) snd_yes (snd_if (snd_test (snd_inI snd_var snd_var)) snd_int (snd_op0 snd_var snd_int)))))
  (sns_seq (sns_asg (snd_lc (sni_zipTT snd_var (snd_ixT snd_var snd_int)) (sng_two (by with_unfolding_all rfl) sng_name sng_name) (by decide) (snd_test (snd_cmp snd_var snd_var)) snd_int))
  (sns_ret (snd_if (snd_test (snd_neD snd_var (snd_lst snd_nil))) snd_non snd_var))))⟩)⟩
def m_law_start : VS := (sRet (vRepU (vTup (aCons (vC (.int 0)) aNil)) (vLen (vIxT (vVar 0) (vC (.int 1))))))
def F_law_start : List DVal → T DVal := fnT 1 ["frame"] m_law_start
theorem sc_law_start : FnScope ["frame"] ["frame"] (defScope s_law_start) := ⟨rfl, rfl, rfl, by decide +kernel, rfl, by decide +kernel, by decide +kernel⟩
theorem h_law_start (T : Tx P K mg t0 t1 t2 t3 t4 CP fP CN fN CR fR)  : Fd P w K mg base "_law_start" ["frame"] CX0 1 (spT (Ts := Ts) (cm := cmS CP CN CR) F_law_start) := by
  obtain ⟨f, fd, A⟩ := T.a_law_start
  have nd := sc_law_start.nd
  exact ⟨f, fd, A.g, A.F.kp, A.b, A.F.ok sc_law_start (fun vs H Q E h => spG_len h fun _ _ _ _ _ z => spT_len z) (fun cdv Ar outer s H vs Q E hr h => ⟨_, (pss_one (ps_ret (pe_op (op_repU (K := K) rfl) (pe_tup (pa_cons pe_int pa_nil)) (pe_callB (call_lenK (K := K) rfl) (by rfl) T.n_len PySem.boot_len (pa_cons (pe_ix (ix_tupK (K := K) rfl) (pv 0) pe_int (fun _ _ => rfl)) pa_nil))))),
    run1 h (sns_ret (snd_repU (snd_tup (snd_cons snd_int snd_nil)) (snd_len (snd_ixT snd_var snd_int))))⟩)⟩
def m_law_common : VS := (sSeq (sWhile (tV (vCmp (fun i j => decide (j < i)) (vVar 1) (vC (.int 0)))) (sPar 0 1 (aCons (vVar 1) (aCons (vIntC (fun _ j => 0 < j) (fun i j => i % j) (vIntI (vVar 0)) (vIntI (vVar 1))) aNil))))
  (sRet (vVar 0)))
def F_law_common : List DVal → T DVal := fnT 2 ["near", "far"] m_law_common
theorem sc_law_common : FnScope ["near", "far"] ["near", "far"] (defScope s_law_common) := ⟨rfl, rfl, rfl, by decide +kernel, rfl, by decide +kernel, by decide +kernel⟩
theorem h_law_common (T : Tx P K mg t0 t1 t2 t3 t4 CP fP CN fN CR fR)  : Fd P w K mg base "_law_common" ["near", "far"] CX0 1 (spT (Ts := Ts) (cm := cmS CP CN CR) F_law_common) := by
  obtain ⟨f, fd, A⟩ := T.a_law_common
  have nd := sc_law_common.nd
  exact ⟨f, fd, A.g, A.F.kp, A.b, A.F.ok sc_law_common (fun vs H Q E h => spG_len h fun _ _ _ _ _ z => spT_len z) (fun cdv Ar outer s H vs Q E hr h => ⟨_, (pss_cons (ps_while PassesOwn.never (pt_cmpR op_gt (pv 1) pe_int (nomark _)) (pss_one (ps_par (i := 0) (j := 1) (by rfl) nd rfl rfl (by decide) rfl rfl (pa_cons (pv 1) (pa_cons (pe_op op_mod (pe_callTy call_int1 (by rfl) T.n_int (by decide +kernel) (pa_cons (pv 0) pa_nil)) (pe_callTy call_int1 (by rfl) T.n_int (by decide +kernel) (pa_cons (pv 1) pa_nil))) pa_nil)) (by rfl))))
      (pss_one (ps_ret (pv 0)))),
    run1 h (sns_seq (sns_while (snd_test (snd_cmp snd_var snd_int)) (sns_par (snd_cons snd_var (snd_cons (snd_opC (snd_intI snd_var) (snd_intI snd_var)) snd_nil))))
  (sns_ret snd_var))⟩)⟩
def m_law_meet : VS := (sSeq (sIf (tV (vNe (vIxT (vVar 0) (vC (.int 0))) (vIxT (vVar 1) (vC (.int 0))))) (sRet (vC (.bool false))) sNext)
  (sSeq (sIf (tV (vCmp (fun i j => decide (i ≤ j)) (vIntC CMulW (fun i j => i * j) (vIxT (vVar 0) (vC (.int 1))) (vIxT (vVar 1) (vC (.int 1)))) (vC (.int 400)))) (sSeq (sAsg 2 (vLc (iR1 (vIntC CMulW (fun i j => i * j) (vIxT (vVar 0) (vC (.int 1))) (vIxT (vVar 1) (vC (.int 1))))) (gN 3) (tA (tV (vEq (vIntC (fun _ j => 0 < j) (fun i j => i % j) (vIntI (vVar 3)) (vIxT (vVar 0) (vC (.int 1)))) (vIxT (vVar 0) (vC (.int 2))))) (tV (vEq (vIntC (fun _ j => 0 < j) (fun i j => i % j) (vIntI (vVar 3)) (vIxT (vVar 1) (vC (.int 1)))) (vIxT (vVar 1) (vC (.int 2)))))) (vVar 3) [3]))
  (sRet (vNeD (vVar 2) (vLst aNil)))) sNext)
  (sRet (vEq (vIntC (fun _ j => 0 < j) (fun i j => i % j) (vIntI (vInt (fun i j => i - j) (vIxT (vVar 0) (vC (.int 2))) (vIxT (vVar 1) (vC (.int 2))))) (vCall F_law_common (aCons (vIxT (vVar 0) (vC (.int 1))) (aCons (vIxT (vVar 1) (vC (.int 1))) aNil)))) (vC (.int 0))))))
def F_law_meet : List DVal → T DVal := fnT 2 ["near", "far", "days", "k"] m_law_meet
theorem sc_law_meet : FnScope ["near", "far", "days", "k"] ["near", "far"] (defScope s_law_meet) := ⟨rfl, rfl, rfl, by decide +kernel, rfl, by decide +kernel, by decide +kernel⟩
theorem h_law_meet (T : Tx P K mg t0 t1 t2 t3 t4 CP fP CN fN CR fR) (X_law_common : Fd P w K mg base "_law_common" ["near", "far"] CX0 1 (spT (Ts := Ts) (cm := cmS CP CN CR) F_law_common)) : Fd P w K mg base "_law_meet" ["near", "far"] CX0 2 (spT (Ts := Ts) (cm := cmS CP CN CR) F_law_meet) := by
  obtain ⟨f, fd, A⟩ := T.a_law_meet
  obtain ⟨_, _, g_law_common, kp_law_common, b_law_common, G_law_common⟩ := X_law_common.ex
  have nd := sc_law_meet.nd
  exact ⟨f, fd, A.g, A.F.kp, A.b, A.F.ok sc_law_meet (fun vs H Q E h => spG_len h fun _ _ _ _ _ z => spT_len z) (fun cdv Ar outer s H vs Q E hr h => ⟨_, (pss_cons (ps_if (pt_cmpR op_ne (pe_ix (ix_tupK (K := K) rfl) (pv 0) pe_int (fun _ _ => rfl)) (pe_ix (ix_tupK (K := K) rfl) (pv 1) pe_int (fun _ _ => rfl)) (nomark _)) (pss_one (ps_ret pe_bl)) pss_nil)
      (pss_cons (ps_if (pt_cmpR op_le (pe_op op_mulW (pe_ix (ix_tupK (K := K) rfl) (pv 0) pe_int (fun _ _ => rfl)) (pe_ix (ix_tupK (K := K) rfl) (pv 1) pe_int (fun _ _ => rfl))) pe_int (nomark _)) (pss_cons (ps_setLc (i := 2) (own := [("k", 3)]) (g := (gName 3)) rfl nd rfl rfl (sw_true rfl rfl rfl (by decide +kernel)) (pi_range1 (by rfl) T.n_range (pa_cons (pe_op op_mulW (pe_ix (ix_tupK (K := K) rfl) (pv 0) pe_int (fun _ _ => rfl)) (pe_ix (ix_tupK (K := K) rfl) (pv 1) pe_int (fun _ _ => rfl))) pa_nil)) (blkOk_by (N := ["near", "far", "days", "k"]) (sc := defScope s_law_meet) (by decide +kernel)) (fun _ _ _ _ _ => by exact (pg_name (i := 3) nd rfl (Or.inl rfl))) (fun _ _ _ _ _ => pts_one (PW.pt (pw_and (pt_cmpR op_eq (pe_op op_mod (pe_callTy call_int1 (by rfl) T.n_int (by decide +kernel) (pa_cons (pv 3) pa_nil)) (pe_ix (ix_tupK (K := K) rfl) (pv 0) pe_int (fun _ _ => rfl))) (pe_ix (ix_tupK (K := K) rfl) (pv 0) pe_int (fun _ _ => rfl)) (nomark _)) (pw_and1 (pt_cmpR op_eq (pe_op op_mod (pe_callTy call_int1 (by rfl) T.n_int (by decide +kernel) (pa_cons (pv 3) pa_nil)) (pe_ix (ix_tupK (K := K) rfl) (pv 1) pe_int (fun _ _ => rfl))) (pe_ix (ix_tupK (K := K) rfl) (pv 1) pe_int (fun _ _ => rfl)) (nomark _)))))) (fun _ _ _ _ _ => by exact (pv 3)))
      (pss_one (ps_ret (pe_cmpR (op_neDK (K := K) rfl hr.units) (pv 2) (pe_lst pa_nil) (nomark _))))) pss_nil)
      (pss_one (ps_ret (pe_cmpR op_eq (pe_op op_mod (pe_callTy call_int1 (by rfl) T.n_int (by decide +kernel) (pa_cons (pe_op op_sub (pe_ix (ix_tupK (K := K) rfl) (pv 0) pe_int (fun _ _ => rfl)) (pe_ix (ix_tupK (K := K) rfl) (pv 1) pe_int (fun _ _ => rfl))) pa_nil)) (pe_call G_law_common (hr.mono (by decide)) rfl g_law_common kp_law_common b_law_common .nil pass0 (pa_cons (pe_ix (ix_tupK (K := K) rfl) (pv 0) pe_int (fun _ _ => rfl)) (pa_cons (pe_ix (ix_tupK (K := K) rfl) (pv 1) pe_int (fun _ _ => rfl)) pa_nil)))) pe_int (nomark _)))))),
    run1 h (sns_seq (sns_if (snd_test (snd_ne (snd_ixT snd_var snd_int) (snd_ixT snd_var snd_int))) (sns_ret snd_bl) sns_next)
  (sns_seq (sns_if (snd_test (snd_cmp (snd_opC (snd_ixT snd_var snd_int) (snd_ixT snd_var snd_int)) snd_int)) (sns_seq (sns_asg (snd_lc (sni_rng1 (snd_opC (snd_ixT snd_var snd_int) (snd_ixT snd_var snd_int))) sng_name (by decide) (snd_and (snd_test (snd_eq (snd_opC (snd_intI snd_var) (snd_ixT snd_var snd_int)) (snd_ixT snd_var snd_int))) (snd_test (snd_eq (snd_opC (snd_intI snd_var) (snd_ixT snd_var snd_int)) (snd_ixT snd_var snd_int)))) snd_var))
  (sns_ret (snd_neD snd_var (snd_lst snd_nil)))) sns_next)
  (sns_ret (snd_eq (snd_opC (snd_intI (snd_op0 (snd_ixT snd_var snd_int) (snd_ixT snd_var snd_int))) (snd_call (snd_cons (snd_ixT snd_var snd_int) (snd_cons (snd_ixT snd_var snd_int) snd_nil)))) snd_int))))⟩)⟩
def m_law_made : VS := (sSeq (sParO 1 2 (vInt (fun i j => i + j) (vC (.int 1)) (vCall F_law_draw (aCons (vVar 0) (aCons (vC (.int 3)) aNil)))) aNil)
  (sSeq (sFor (iR1 (vIntC CMulW (fun i j => i * j) (vC (.int 4)) (vInt (fun i j => i + j) (vC (.int 1)) (vCall F_law_draw (aCons (vVar 0) (aCons (vC (.int 6)) aNil)))))) (gN 3) (sSeq (sAsg 4 (vCall F_law_of (aCons (vVar 0) (aCons (vLst (aCons (vInt (fun i j => i + j) (vC (.int 1)) (vCall F_law_draw (aCons (vVar 0) (aCons (vC (.int 12)) aNil)))) (aCons (vCall F_law_of (aCons (vVar 0) (aCons (vLst (aCons (vC (.int 2)) (aCons (vC (.int 4)) (aCons (vC (.int 8)) (aCons (vC (.int 16)) (aCons (vC (.int 32)) aNil)))))) aNil))) (aCons (vIntC CMulW (fun i j => i * j) (vIntC CPow (fun i j => i ^ j.toNat) (vC (.int 2)) (vC (.int 60))) (vInt (fun i j => i + j) (vC (.int 1)) (vCall F_law_draw (aCons (vVar 0) (aCons (vC (.int 9)) aNil))))) aNil)))) aNil))))
  (sSeq (sAsg 5 (vTup (aCons (vCall F_law_draw (aCons (vVar 0) (aCons (vVar 1) aNil))) (aCons (vVar 4) (aCons (vCall F_law_of (aCons (vVar 0) (aCons (vLst (aCons (vCall F_law_draw (aCons (vVar 0) (aCons (vVar 4) aNil))) (aCons (vInt (fun i j => i - j) (vVar 4) (vC (.int 1))) aNil))) aNil))) aNil)))))
  (sIf (tA (tV (vCmp (fun i j => decide (i < j)) (vLen (vVar 2)) (vC (.int 8)))) (tV (vEqD (vLcO 2 (gN 6) (tV (vCall F_law_meet (aCons (vVar 5) (aCons (vVar 6) aNil)))) (vVar 6) [6]) (vLst aNil)))) (sApp 2 (vVar 5)) sNext))))
  (sSeq (sAsg 7 (vLcO 2 (gN 5) tY (vInt (fun i j => i + j) (vIxT (vVar 5) (vC (.int 1))) (vCall F_law_of (aCons (vVar 0) (aCons (vLst (aCons (vC (.int 0)) (aCons (vC (.int 0)) (aCons (vC (.int 1)) (aCons (vCall F_law_draw (aCons (vVar 0) (aCons (vC (.int 9)) aNil))) (aCons (vIntC CPow (fun i j => i ^ j.toNat) (vC (.int 10)) (vC (.int 20))) aNil)))))) aNil)))) [5]))
  (sFrz 2 (sRet (vTup (aCons (vTup (aCons (vVar 1) (aCons (vTupOf (vVar 7)) aNil))) (aCons (vTupOf (vVar 2)) aNil))))))))
def F_law_made : List DVal → T DVal := fnT 1 ["m", "hands", "found", "turn", "every", "own", "far", "sizes"] m_law_made
theorem sc_law_made : FnScope ["m", "hands", "found", "turn", "every", "own", "far", "sizes"] ["m"] (defScope s_law_made) := ⟨rfl, rfl, rfl, by decide +kernel, rfl, by decide +kernel, by decide +kernel⟩
theorem h_law_made (T : Tx P K mg t0 t1 t2 t3 t4 CP fP CN fN CR fR) (X_law_of : Fd P w K mg base "_law_of" ["m", "some"] CX0 2 (spT (Ts := Ts) (cm := cmS CP CN CR) F_law_of)) (X_law_draw : Fd P w K mg base "_law_draw" ["m", "many"] CX0 1 (spT (Ts := Ts) (cm := cmS CP CN CR) F_law_draw)) (X_law_meet : Fd P w K mg base "_law_meet" ["near", "far"] CX0 2 (spT (Ts := Ts) (cm := cmS CP CN CR) F_law_meet)) : Fd P w K mg base "_law_made" ["m"] CX0 3 (spT (Ts := Ts) (cm := cmS CP CN CR) F_law_made) := by
  obtain ⟨f, fd, A⟩ := T.a_law_made
  obtain ⟨_, _, g_law_of, kp_law_of, b_law_of, G_law_of⟩ := X_law_of.ex
  obtain ⟨_, _, g_law_draw, kp_law_draw, b_law_draw, G_law_draw⟩ := X_law_draw.ex
  obtain ⟨_, _, g_law_meet, kp_law_meet, b_law_meet, G_law_meet⟩ := X_law_meet.ex
  have nd := sc_law_made.nd
  exact ⟨f, fd, A.g, A.F.kp, A.b, A.F.ok sc_law_made (fun vs H Q E h => spG_len h fun _ _ _ _ _ z => spT_len z) (fun cdv Ar outer s H vs Q E hr h => ⟨_, (pss_cons (ps_par (i := 1) (j := 2) (by rfl) nd rfl rfl (by decide) rfl rfl (pa_cons (pe_op op_add pe_int (pe_call G_law_draw (hr.mono (by decide)) rfl g_law_draw kp_law_draw b_law_draw .nil pass0 (pa_cons (pv 0) (pa_cons pe_int pa_nil)))) (pa_cons (pe_lst pa_nil) pa_nil)) (by rfl))
      (pss_cons (ps_for PassesOwn.never rfl (pi_range1 (by rfl) T.n_range (pa_cons (pe_op op_mulW pe_int (pe_op op_add pe_int (pe_call G_law_draw (hr.mono (by decide)) rfl g_law_draw kp_law_draw b_law_draw .nil pass0 (pa_cons (pv 0) (pa_cons pe_int pa_nil))))) pa_nil)) (pg_name (i := 3) nd rfl (Or.inl rfl)) (pss_cons (ps_set (i := 4) nd rfl (Or.inl rfl) (pe_call G_law_of (hr.mono (by decide)) rfl g_law_of kp_law_of b_law_of .nil pass0 (pa_cons (pv 0) (pa_cons (pe_lst (pa_cons (pe_op op_add pe_int (pe_call G_law_draw (hr.mono (by decide)) rfl g_law_draw kp_law_draw b_law_draw .nil pass0 (pa_cons (pv 0) (pa_cons pe_int pa_nil)))) (pa_cons (pe_call G_law_of (hr.mono (by decide)) rfl g_law_of kp_law_of b_law_of .nil pass0 (pa_cons (pv 0) (pa_cons (pe_lst (pa_cons pe_int (pa_cons pe_int (pa_cons pe_int (pa_cons pe_int (pa_cons pe_int pa_nil)))))) pa_nil))) (pa_cons (pe_op op_mulW (pe_op op_pow pe_int pe_int) (pe_op op_add pe_int (pe_call G_law_draw (hr.mono (by decide)) rfl g_law_draw kp_law_draw b_law_draw .nil pass0 (pa_cons (pv 0) (pa_cons pe_int pa_nil))))) pa_nil)))) pa_nil))))
      (pss_cons (ps_set (i := 5) nd rfl (Or.inr rfl) (pe_tup (pa_cons (pe_call G_law_draw (hr.mono (by decide)) rfl g_law_draw kp_law_draw b_law_draw .nil pass0 (pa_cons (pv 0) (pa_cons (pv 1) pa_nil))) (pa_cons (pv 4) (pa_cons (pe_call G_law_of (hr.mono (by decide)) rfl g_law_of kp_law_of b_law_of .nil pass0 (pa_cons (pv 0) (pa_cons (pe_lst (pa_cons (pe_call G_law_draw (hr.mono (by decide)) rfl g_law_draw kp_law_draw b_law_draw .nil pass0 (pa_cons (pv 0) (pa_cons (pv 4) pa_nil))) (pa_cons (pe_op op_sub (pv 4) pe_int) pa_nil))) pa_nil))) pa_nil)))))
      (pss_one (ps_if (PW.pt (pw_and (pt_cmpR op_lt (pe_callB (call_lenK (K := K) rfl) (by rfl) T.n_len PySem.boot_len (pa_cons (pv 2) pa_nil)) pe_int (nomark _)) (pw_and1 (pt_cmpR (op_eqDK (K := K) rfl hr.units) (pe_lc (own := [("far", 6)]) (g := (gName 6)) rfl nd (pi_listK (K := K) rfl (pv 2)) (blkOk_by (N := ["m", "hands", "found", "turn", "every", "own", "far", "sizes"]) (sc := defScope s_law_made) (by decide +kernel)) (fun _ _ _ _ _ => by exact (pg_name (i := 6) nd rfl (Or.inl rfl))) (fun _ _ _ _ _ => pts_one (pt_val (pe_call G_law_meet (hr.mono (by decide)) rfl g_law_meet kp_law_meet b_law_meet .nil pass0 (pa_cons (pv 5) (pa_cons (pv 6) pa_nil))))) (fun _ _ _ _ _ => by exact (pv 6))) (pe_lst pa_nil) (nomark _))))) (pss_one (ps_expr (pe_bm PySem.F.plainAttrs_list PySem.F.slot_list_append PySem.F.type_list_append mt_append (pv 2) (pa_cons (pv 5) pa_nil)))) pss_nil)))))
      (pss_cons (ps_setLc (i := 7) (own := [("own", 5)]) (g := (gName 5)) (tt := tYes) rfl nd rfl rfl (sw_true rfl rfl rfl (by decide +kernel)) (pi_listK (K := K) rfl (pv 2)) (blkOk_by (N := ["m", "hands", "found", "turn", "every", "own", "far", "sizes"]) (sc := defScope s_law_made) (by decide +kernel)) (fun _ _ _ _ _ => by exact (pg_name (i := 5) nd rfl (Or.inl rfl))) (fun _ _ _ _ _ => pts_nil) (fun _ _ _ _ _ => by exact (pe_op op_add (pe_ix (ix_tupK (K := K) rfl) (pv 5) pe_int (fun _ _ => rfl)) (pe_call G_law_of (hr.mono (by decide)) rfl g_law_of kp_law_of b_law_of .nil pass0 (pa_cons (pv 0) (pa_cons (pe_lst (pa_cons pe_int (pa_cons pe_int (pa_cons pe_int (pa_cons (pe_call G_law_draw (hr.mono (by decide)) rfl g_law_draw kp_law_draw b_law_draw .nil pass0 (pa_cons (pv 0) (pa_cons pe_int pa_nil))) (pa_cons (pe_op op_pow pe_int pe_int) pa_nil)))))) pa_nil))))))
      (pss_one (ps_ret (pe_tup (pa_cons (pe_tup (pa_cons (pv 1) (pa_cons (pe_callTy (call_tupleK (K := K) rfl) (by rfl) T.n_tuple (by decide +kernel) (pa_cons (pv 7) pa_nil)) pa_nil))) (pa_cons (pe_callTy (call_tupleK (K := K) rfl) (by rfl) T.n_tuple (by decide +kernel) (pa_cons (pv 2) pa_nil)) pa_nil)))))))),
    run1 h (sns_seq (sns_parO (snd_op0 snd_int (snd_call (snd_cons snd_var (snd_cons snd_int snd_nil)))) snd_nil)
  (sns_seq (sns_for (sni_rng1 (snd_opC snd_int (snd_op0 snd_int (snd_call (snd_cons snd_var (snd_cons snd_int snd_nil)))))) sgo_name (sns_seq (sns_asg (snd_call (snd_cons snd_var (snd_cons (snd_lst (snd_cons (snd_op0 snd_int (snd_call (snd_cons snd_var (snd_cons snd_int snd_nil)))) (snd_cons (snd_call (snd_cons snd_var (snd_cons (snd_lst (snd_cons snd_int (snd_cons snd_int (snd_cons snd_int (snd_cons snd_int (snd_cons snd_int snd_nil)))))) snd_nil))) (snd_cons (snd_opC (snd_opC snd_int snd_int) (snd_op0 snd_int (snd_call (snd_cons snd_var (snd_cons snd_int snd_nil))))) snd_nil)))) snd_nil))))
  (sns_seq (sns_asg (snd_tup (snd_cons (snd_call (snd_cons snd_var (snd_cons snd_var snd_nil))) (snd_cons snd_var (snd_cons (snd_call (snd_cons snd_var (snd_cons (snd_lst (snd_cons (snd_call (snd_cons snd_var (snd_cons snd_var snd_nil))) (snd_cons (snd_op0 snd_var snd_int) snd_nil))) snd_nil))) snd_nil)))))
  (sns_if (snd_and (snd_test (snd_cmp (snd_len snd_var) snd_int)) (snd_test (snd_eqD (snd_lcO sng_name (by decide) (snd_tB (snd_call (snd_cons snd_var (snd_cons snd_var snd_nil)))) snd_var) (snd_lst snd_nil)))) (sns_app snd_var) sns_next))))
  (sns_seq (sns_asg (snd_lcO sng_name (by decide) snd_yes (snd_op0 (snd_ixT snd_var snd_int) (snd_call (snd_cons snd_var (snd_cons (snd_lst (snd_cons snd_int (snd_cons snd_int (snd_cons snd_int (snd_cons (snd_call (snd_cons snd_var (snd_cons snd_int snd_nil))) (snd_cons (snd_opC snd_int snd_int) snd_nil)))))) snd_nil))))))
  (sns_frz (sns_ret (snd_tup (snd_cons (snd_tup (snd_cons snd_var (snd_cons (snd_tupOf snd_var) snd_nil))) (snd_cons (snd_tupOf snd_var) snd_nil))))))))⟩)⟩
def m_law_day : VS := (sRet (vTupOf (vLc (iR1 (vLen (vVar 0))) (gN 2) (tV (vEq (vIntC (fun _ j => 0 < j) (fun i j => i % j) (vIntI (vVar 1)) (vIxT (vIxT (vVar 0) (vVar 2)) (vC (.int 1)))) (vIxT (vIxT (vVar 0) (vVar 2)) (vC (.int 2))))) (vVar 2) [2])))
def F_law_day : List DVal → T DVal := fnT 2 ["sheet", "spot", "k"] m_law_day
theorem sc_law_day : FnScope ["sheet", "spot", "k"] ["sheet", "spot"] (defScope s_law_day) := ⟨rfl, rfl, rfl, by decide +kernel, rfl, by decide +kernel, by decide +kernel⟩
theorem h_law_day (T : Tx P K mg t0 t1 t2 t3 t4 CP fP CN fN CR fR)  : Fd P w K mg base "_law_day" ["sheet", "spot"] CX0 1 (spT (Ts := Ts) (cm := cmS CP CN CR) F_law_day) := by
  obtain ⟨f, fd, A⟩ := T.a_law_day
  have nd := sc_law_day.nd
  exact ⟨f, fd, A.g, A.F.kp, A.b, A.F.ok sc_law_day (fun vs H Q E h => spG_len h fun _ _ _ _ _ z => spT_len z) (fun cdv Ar outer s H vs Q E hr h => ⟨_, (pss_one (ps_ret (pe_callTy (call_tupleK (K := K) rfl) (by rfl) T.n_tuple (by decide +kernel) (pa_cons (pe_lc (own := [("k", 2)]) (g := (gName 2)) rfl nd (pi_range1 (by rfl) T.n_range (pa_cons (pe_callB (call_lenK (K := K) rfl) (by rfl) T.n_len PySem.boot_len (pa_cons (pv 0) pa_nil)) pa_nil)) (blkOk_by (N := ["sheet", "spot", "k"]) (sc := defScope s_law_day) (by decide +kernel)) (fun _ _ _ _ _ => by exact (pg_name (i := 2) nd rfl (Or.inl rfl))) (fun _ _ _ _ _ => pts_one (pt_cmpR op_eq (pe_op op_mod (pe_callTy call_int1 (by rfl) T.n_int (by decide +kernel) (pa_cons (pv 1) pa_nil)) (pe_ix (ix_tupK (K := K) rfl) (pe_ix (ix_tupK (K := K) rfl) (pv 0) (pv 2) (fun _ _ => rfl)) pe_int (fun _ _ => rfl))) (pe_ix (ix_tupK (K := K) rfl) (pe_ix (ix_tupK (K := K) rfl) (pv 0) (pv 2) (fun _ _ => rfl)) pe_int (fun _ _ => rfl)) (nomark _))) (fun _ _ _ _ _ => by exact (pv 2))) pa_nil)))),
    run1 h (sns_ret (snd_tupOf (snd_lc (sni_rng1 (snd_len snd_var)) sng_name (by decide) (snd_test (snd_eq (snd_opC (snd_intI snd_var) (snd_ixT (snd_ixT snd_var snd_var) snd_int)) (snd_ixT (snd_ixT snd_var snd_var) snd_int))) snd_var)))⟩)⟩
end
end K13
set_option Elab.async false
set_option linter.all false
set_option maxRecDepth 100000
set_option maxHeartbeats 4000000
namespace K13
open PySem L2 Gd PySem.ExG DC CpComb LamX RZ
set_option exponentiation.threshold 10000
section
variable {P : Program} {w : World} {K : PySem.W.Frag} {mg : Str → Option Value} {base : Heap} {t0 t1 t2 t3 t4 : Tok} {CP fP CN fN CR fR : Addr} {CT : Addr} {Ts : List (Addr × Str)}
def m_law_days_right : VS := (sSeq (sAsg 3 (vLst (aCons (vC (.int 0)) (aCons (vC (.int 1)) (aCons (vCall F_law_draw (aCons (vVar 0) (aCons (vC (.int 40)) aNil))) (aCons (vIntC CPow (fun i j => i ^ j.toNat) (vC (.int 10)) (vC (.int 30))) (aCons (vInt (fun i j => i - j) (vIntC CPow (fun i j => i ^ j.toNat) (vC (.int 10)) (vC (.int 30))) (vCall F_law_draw (aCons (vVar 0) (aCons (vC (.int 99)) aNil)))) (aCons (vIntC CMulW (fun i j => i * j) (vCall F_law_draw (aCons (vVar 0) (aCons (vIntC CPow (fun i j => i ^ j.toNat) (vC (.int 10)) (vC (.int 9))) aNil))) (vIntC CPow (fun i j => i ^ j.toNat) (vC (.int 10)) (vC (.int 20)))) aNil))))))))
  (sSeq (sFor (iL (vVar 3)) (gN 4) (sSeq (sAsg 5 (vCall F_law_day (aCons (vVar 2) (aCons (vVar 4) aNil))))
  (sSeq (sAsg 6 (vLst (aCons (vCall F_day_by (aCons (vVar 1) (aCons (vVar 2) (aCons (vVar 4) aNil)))) (aCons (vCall F_day_by (aCons (vVar 1) (aCons (vVar 2) (aCons (vVar 4) aNil)))) aNil))))
  (sSeq (sIf (tO (tV (vNe (vRepr (vVar 6)) (vRepr (vLst (aCons (vVar 5) (aCons (vVar 5) aNil)))))) (tV (vCmp (fun i j => decide (j < i)) (vLen (vVar 5)) (vIxT (vVar 1) (vC (.int 0)))))) (sRet (vC (.bool false))) sNext)
  (sFor (iR1 (vLen (vVar 2))) (gN 7) (sSeq (sAsg 5 (vInt (fun i j => i + j) (vVar 4) (vIntC (fun _ j => 0 < j) (fun i j => i % j) (vIntI (vInt (fun i j => i - j) (vIxT (vIxT (vVar 2) (vVar 7)) (vC (.int 2))) (vVar 4))) (vIxT (vIxT (vVar 2) (vVar 7)) (vC (.int 1))))))
  (sIf (tO (tV (vNe (vRepr (vRepL (vLst (aCons (vCall F_next_by (aCons (vVar 1) (aCons (vVar 2) (aCons (vVar 7) (aCons (vVar 4) aNil))))) aNil)) (vC (.int 2)))) (vRepr (vRepL (vLst (aCons (vVar 5) aNil)) (vC (.int 2)))))) (tV (vInI true (vVar 7) (vCall F_law_day (aCons (vVar 2) (aCons (vVar 5) aNil)))))) (sRet (vC (.bool false))) sNext)))))))
  (sRet (vC (.bool true)))))
def F_law_days_right : List DVal → T DVal := fnT 3 ["m", "frame", "sheet", "spots", "spot", "due", "told", "k"] m_law_days_right
theorem sc_law_days_right : FnScope ["m", "frame", "sheet", "spots", "spot", "due", "told", "k"] ["m", "frame", "sheet"] (defScope s_law_days_right) := ⟨rfl, rfl, rfl, by decide +kernel, rfl, by decide +kernel, by decide +kernel⟩
theorem h_law_days_right (T : Tx P K mg t0 t1 t2 t3 t4 CP fP CN fN CR fR) (X_law_draw : Fd P w K mg base "_law_draw" ["m", "many"] CX0 1 (spT (Ts := Ts) (cm := cmS CP CN CR) F_law_draw)) (X_law_day : Fd P w K mg base "_law_day" ["sheet", "spot"] CX0 1 (spT (Ts := Ts) (cm := cmS CP CN CR) F_law_day)) (X_day_by : Fd P w K mg base "day_by" ["plan", "parts", "day"] (L2.CX P w) 7 (spT (Ts := Ts) (cm := cmS CP CN CR) F_day_by)) (X_next_by : Fd P w K mg base "next_by" ["plan", "parts", "number", "day"] (L2.CX P w) 7 (spT (Ts := Ts) (cm := cmS CP CN CR) F_next_by)) (hb : ∃ o, base.get? sysModules = some o) : FdG P w K mg base "_law_days_right" ["m", "frame", "sheet"] CX0 8 (spT (Ts := Ts) (cm := cmS CP CN CR) F_law_days_right) := by
  obtain ⟨f, fd, A⟩ := T.a_law_days_right
  obtain ⟨_, _, g_law_draw, kp_law_draw, b_law_draw, G_law_draw⟩ := X_law_draw.ex
  obtain ⟨_, _, g_law_day, kp_law_day, b_law_day, G_law_day⟩ := X_law_day.ex
  obtain ⟨_, _, g_day_by, kp_day_by, b_day_by, G_day_by⟩ := X_day_by.ex
  obtain ⟨_, _, g_next_by, kp_next_by, b_next_by, G_next_by⟩ := X_next_by.ex
  have nd := sc_law_days_right.nd
  exact ⟨f, fd, A.g, A.F.kp, A.b, okG A.F sc_law_days_right (fun vs H Q E h => spG_len h fun _ _ _ _ _ z => spT_len z) (fun cdv Ar outer s H vs Q E gA hr h => ⟨_, PSs.nox (pss_cons (ps_set (i := 3) nd rfl (Or.inl rfl) (pe_lst (pa_cons pe_int (pa_cons pe_int (pa_cons (pe_call G_law_draw (hr.mono (by decide)) rfl g_law_draw kp_law_draw b_law_draw .nil pass0 (pa_cons (pv 0) (pa_cons pe_int pa_nil))) (pa_cons (pe_op op_pow pe_int pe_int) (pa_cons (pe_op op_sub (pe_op op_pow pe_int pe_int) (pe_call G_law_draw (hr.mono (by decide)) rfl g_law_draw kp_law_draw b_law_draw .nil pass0 (pa_cons (pv 0) (pa_cons pe_int pa_nil)))) (pa_cons (pe_op op_mulW (pe_call G_law_draw (hr.mono (by decide)) rfl g_law_draw kp_law_draw b_law_draw .nil pass0 (pa_cons (pv 0) (pa_cons (pe_op op_pow pe_int pe_int) pa_nil))) (pe_op op_pow pe_int pe_int)) pa_nil))))))))
      (pss_cons (ps_for PassesOwn.never rfl (pi_listK (K := K) rfl (pv 3)) (pg_name (i := 4) nd rfl (Or.inl rfl)) (pss_cons (ps_set (i := 5) nd rfl (Or.inl rfl) (pe_call G_law_day (hr.mono (by decide)) rfl g_law_day kp_law_day b_law_day .nil pass0 (pa_cons (pv 2) (pa_cons (pv 4) pa_nil))))
      (pss_cons (ps_set (i := 6) nd rfl (Or.inl rfl) (pe_lst (pa_cons (pe_callS G_day_by (hr.mono (by decide)) rfl g_day_by kp_day_by b_day_by (fun σ => passAt LamX.takes0 σ) (by exact (pa_cons (pv 1) (pa_cons (pv 2) (pa_cons (pv 4) pa_nil))))) (pa_cons (pe_callS G_day_by (hr.mono (by decide)) rfl g_day_by kp_day_by b_day_by (fun σ => passAt LamX.takes0 σ) (by exact (pa_cons (pv 1) (pa_cons (pv 2) (pa_cons (pv 4) pa_nil))))) pa_nil))))
      (pss_cons (ps_if (PW.pt (pw_or (pt_cmpR op_ne (pe_callB (call_repr gA hr.units hb) (by rfl) T.n_repr (by decide +kernel) (pa_cons (pv 6) pa_nil)) (pe_callB (call_repr gA hr.units hb) (by rfl) T.n_repr (by decide +kernel) (pa_cons (pe_lst (pa_cons (pv 5) (pa_cons (pv 5) pa_nil))) pa_nil)) (nomark _)) (pw_or1 (pt_cmpR op_gt (pe_callB (call_lenK (K := K) rfl) (by rfl) T.n_len PySem.boot_len (pa_cons (pv 5) pa_nil)) (pe_ix (ix_tupK (K := K) rfl) (pv 1) pe_int (fun _ _ => rfl)) (nomark _))))) (pss_one (ps_ret pe_bl)) pss_nil)
      (pss_one (ps_for PassesOwn.never rfl (pi_range1 (by rfl) T.n_range (pa_cons (pe_callB (call_lenK (K := K) rfl) (by rfl) T.n_len PySem.boot_len (pa_cons (pv 2) pa_nil)) pa_nil)) (pg_name (i := 7) nd rfl (Or.inl rfl)) (pss_cons (ps_set (i := 5) nd rfl (Or.inl rfl) (pe_op op_add (pv 4) (pe_op op_mod (pe_callTy call_int1 (by rfl) T.n_int (by decide +kernel) (pa_cons (pe_op op_sub (pe_ix (ix_tupK (K := K) rfl) (pe_ix (ix_tupK (K := K) rfl) (pv 2) (pv 7) (fun _ _ => rfl)) pe_int (fun _ _ => rfl)) (pv 4)) pa_nil)) (pe_ix (ix_tupK (K := K) rfl) (pe_ix (ix_tupK (K := K) rfl) (pv 2) (pv 7) (fun _ _ => rfl)) pe_int (fun _ _ => rfl)))))
      (pss_one (ps_if (PW.pt (pw_or (pt_cmpR op_ne (pe_callB (call_repr gA hr.units hb) (by rfl) T.n_repr (by decide +kernel) (pa_cons (pe_op op_rep (pe_lst (pa_cons (pe_callS G_next_by (hr.mono (by decide)) rfl g_next_by kp_next_by b_next_by (fun σ => passAt LamX.takes0 σ) (by exact (pa_cons (pv 1) (pa_cons (pv 2) (pa_cons (pv 7) (pa_cons (pv 4) pa_nil)))))) pa_nil)) pe_int) pa_nil)) (pe_callB (call_repr gA hr.units hb) (by rfl) T.n_repr (by decide +kernel) (pa_cons (pe_op op_rep (pe_lst (pa_cons (pv 5) pa_nil)) pe_int) pa_nil)) (nomark _)) (pw_or1 (pt_cmpR (op_notInK (K := K) rfl) (pv 7) (pe_call G_law_day (hr.mono (by decide)) rfl g_law_day kp_law_day b_law_day .nil pass0 (pa_cons (pv 2) (pa_cons (pv 5) pa_nil))) (by rfl))))) (pss_one (ps_ret pe_bl)) pss_nil)))))))))
      (pss_one (ps_ret pe_bl)))),
    run1 h (sns_seq (sns_asg (snd_lst (snd_cons snd_int (snd_cons snd_int (snd_cons (snd_call (snd_cons snd_var (snd_cons snd_int snd_nil))) (snd_cons (snd_opC snd_int snd_int) (snd_cons (snd_op0 (snd_opC snd_int snd_int) (snd_call (snd_cons snd_var (snd_cons snd_int snd_nil)))) (snd_cons (snd_opC (snd_call (snd_cons snd_var (snd_cons (snd_opC snd_int snd_int) snd_nil))) (snd_opC snd_int snd_int)) snd_nil))))))))
  (sns_seq (sns_for (sni_list snd_var) sgo_name (sns_seq (sns_asg (snd_call (snd_cons snd_var (snd_cons snd_var snd_nil))))
  (sns_seq (sns_asg (snd_lst (snd_cons (snd_callS0 (snd_cons snd_var (snd_cons snd_var (snd_cons snd_var snd_nil)))) (snd_cons (snd_callS0 (snd_cons snd_var (snd_cons snd_var (snd_cons snd_var snd_nil)))) snd_nil))))
  (sns_seq (sns_if (snd_or (snd_test (snd_ne (snd_repr snd_var) (snd_repr (snd_lst (snd_cons snd_var (snd_cons snd_var snd_nil)))))) (snd_test (snd_cmp (snd_len snd_var) (snd_ixT snd_var snd_int)))) (sns_ret snd_bl) sns_next)
  (sns_for (sni_rng1 (snd_len snd_var)) sgo_name (sns_seq (sns_asg (snd_op0 snd_var (snd_opC (snd_intI (snd_op0 (snd_ixT (snd_ixT snd_var snd_var) snd_int) snd_var)) (snd_ixT (snd_ixT snd_var snd_var) snd_int))))
  (sns_if (snd_or (snd_test (snd_ne (snd_repr (snd_repL (snd_lst (snd_cons (snd_callS0 (snd_cons snd_var (snd_cons snd_var (snd_cons snd_var (snd_cons snd_var snd_nil))))) snd_nil)) snd_int)) (snd_repr (snd_repL (snd_lst (snd_cons snd_var snd_nil)) snd_int)))) (snd_test (snd_inI snd_var (snd_call (snd_cons snd_var (snd_cons snd_var snd_nil)))))) (sns_ret snd_bl) sns_next)))))))
  (sns_ret snd_bl)))⟩)⟩
def m_law_row_right : VS := (sSeq (sAsg 3 (vCall F_law_of (aCons (vVar 0) (aCons (vLst (aCons (vC (.int 0)) (aCons (vC (.int 1)) (aCons (vC (.int 9)) (aCons (vC (.int 60)) aNil))))) aNil))))
  (sSeq (sAsg 4 (vTupOf (vLc (iR1 (vVar 3)) (gN 5) tY (vCall F_law_day (aCons (vVar 2) (aCons (vVar 5) aNil))) [5])))
  (sSeq (sIf (tV (vNe (vRepr (vLst (aCons (vCall F_row_by (aCons (vVar 1) (aCons (vVar 2) (aCons (vVar 3) aNil)))) (aCons (vCall F_row_by (aCons (vVar 1) (aCons (vVar 2) (aCons (vVar 3) aNil)))) aNil)))) (vRepr (vLst (aCons (vVar 4) (aCons (vVar 4) aNil)))))) (sRet (vC (.bool false))) sNext)
  (sSeq (sAsg 6 (vCall F_law_start (aCons (vVar 1) aNil)))
  (sSeq (sFor (iT (vVar 4)) (gN 7) (sSeq (sAsg 6 (vCall F_law_go (aCons (vVar 1) (aCons (vVar 6) (aCons (vVar 7) aNil)))))
  (sIf (tV (vIsN (vVar 6) (vC .none))) (sRet (vC (.bool false))) sNext)))
  (sRet (vC (.bool true))))))))
def F_law_row_right : List DVal → T DVal := fnT 3 ["m", "frame", "sheet", "size", "due", "k", "ages", "lot"] m_law_row_right
theorem sc_law_row_right : FnScope ["m", "frame", "sheet", "size", "due", "k", "ages", "lot"] ["m", "frame", "sheet"] (defScope s_law_row_right) := ⟨rfl, rfl, rfl, by decide +kernel, rfl, by decide +kernel, by decide +kernel⟩
theorem h_law_row_right (T : Tx P K mg t0 t1 t2 t3 t4 CP fP CN fN CR fR) (X_law_of : Fd P w K mg base "_law_of" ["m", "some"] CX0 2 (spT (Ts := Ts) (cm := cmS CP CN CR) F_law_of)) (X_law_start : Fd P w K mg base "_law_start" ["frame"] CX0 1 (spT (Ts := Ts) (cm := cmS CP CN CR) F_law_start)) (X_law_go : Fd P w K mg base "_law_go" ["frame", "ages", "lot"] CX0 1 (spT (Ts := Ts) (cm := cmS CP CN CR) F_law_go)) (X_law_day : Fd P w K mg base "_law_day" ["sheet", "spot"] CX0 1 (spT (Ts := Ts) (cm := cmS CP CN CR) F_law_day)) (X_row_by : Fd P w K mg base "row_by" ["plan", "parts", "many"] (L2.CX P w) 7 (spT (Ts := Ts) (cm := cmS CP CN CR) F_row_by)) (hb : ∃ o, base.get? sysModules = some o) : FdG P w K mg base "_law_row_right" ["m", "frame", "sheet"] CX0 8 (spT (Ts := Ts) (cm := cmS CP CN CR) F_law_row_right) := by
  obtain ⟨f, fd, A⟩ := T.a_law_row_right
  obtain ⟨_, _, g_law_of, kp_law_of, b_law_of, G_law_of⟩ := X_law_of.ex
  obtain ⟨_, _, g_law_start, kp_law_start, b_law_start, G_law_start⟩ := X_law_start.ex
  obtain ⟨_, _, g_law_go, kp_law_go, b_law_go, G_law_go⟩ := X_law_go.ex
  obtain ⟨_, _, g_law_day, kp_law_day, b_law_day, G_law_day⟩ := X_law_day.ex
  obtain ⟨_, _, g_row_by, kp_row_by, b_row_by, G_row_by⟩ := X_row_by.ex
  have nd := sc_law_row_right.nd
  exact ⟨f, fd, A.g, A.F.kp, A.b, okG A.F sc_law_row_right (fun vs H Q E h => spG_len h fun _ _ _ _ _ z => spT_len z) (fun cdv Ar outer s H vs Q E gA hr h => ⟨_, PSs.nox (pss_cons (ps_set (i := 3) nd rfl (Or.inl rfl) (pe_call G_law_of (hr.mono (by decide)) rfl g_law_of kp_law_of b_law_of .nil pass0 (pa_cons (pv 0) (pa_cons (pe_lst (pa_cons pe_int (pa_cons pe_int (pa_cons pe_int (pa_cons pe_int pa_nil))))) pa_nil))))
      (pss_cons (ps_set (i := 4) nd rfl (Or.inl rfl) (pe_callTy (call_tupleK (K := K) rfl) (by rfl) T.n_tuple (by decide +kernel) (pa_cons (pe_lc (own := [("k", 5)]) (g := (gName 5)) (tt := tYes) rfl nd (pi_range1 (by rfl) T.n_range (pa_cons (pv 3) pa_nil)) (blkOk_by (N := ["m", "frame", "sheet", "size", "due", "k", "ages", "lot"]) (sc := defScope s_law_row_right) (by decide +kernel)) (fun _ _ _ _ _ => by exact (pg_name (i := 5) nd rfl (Or.inl rfl))) (fun _ _ _ _ _ => pts_nil) (fun _ _ _ _ _ => by exact (pe_call G_law_day (hr.mono (by decide)) rfl g_law_day kp_law_day b_law_day .nil pass0 (pa_cons (pv 2) (pa_cons (pv 5) pa_nil))))) pa_nil)))
      (pss_cons (ps_if (pt_cmpR op_ne (pe_callB (call_repr gA hr.units hb) (by rfl) T.n_repr (by decide +kernel) (pa_cons (pe_lst (pa_cons (pe_callS G_row_by (hr.mono (by decide)) rfl g_row_by kp_row_by b_row_by (fun σ => passAt LamX.takes0 σ) (by exact (pa_cons (pv 1) (pa_cons (pv 2) (pa_cons (pv 3) pa_nil))))) (pa_cons (pe_callS G_row_by (hr.mono (by decide)) rfl g_row_by kp_row_by b_row_by (fun σ => passAt LamX.takes0 σ) (by exact (pa_cons (pv 1) (pa_cons (pv 2) (pa_cons (pv 3) pa_nil))))) pa_nil))) pa_nil)) (pe_callB (call_repr gA hr.units hb) (by rfl) T.n_repr (by decide +kernel) (pa_cons (pe_lst (pa_cons (pv 4) (pa_cons (pv 4) pa_nil))) pa_nil)) (nomark _)) (pss_one (ps_ret pe_bl)) pss_nil)
      (pss_cons (ps_set (i := 6) nd rfl (Or.inl rfl) (pe_call G_law_start (hr.mono (by decide)) rfl g_law_start kp_law_start b_law_start .nil pass0 (pa_cons (pv 1) pa_nil)))
      (pss_cons (ps_for PassesOwn.never rfl (pi_tupK (K := K) rfl (pv 4)) (pg_name (i := 7) nd rfl (Or.inl rfl)) (pss_cons (ps_set (i := 6) nd rfl (Or.inl rfl) (pe_call G_law_go (hr.mono (by decide)) rfl g_law_go kp_law_go b_law_go .nil pass0 (pa_cons (pv 1) (pa_cons (pv 6) (pa_cons (pv 7) pa_nil)))))
      (pss_one (ps_if (pt_cmpR op_isN (pv 6) pe_non (nomark _)) (pss_one (ps_ret pe_bl)) pss_nil))))
      (pss_one (ps_ret pe_bl))))))),
    run1 h (sns_seq (sns_asg (snd_call (snd_cons snd_var (snd_cons (snd_lst (snd_cons snd_int (snd_cons snd_int (snd_cons snd_int (snd_cons snd_int snd_nil))))) snd_nil))))
  (sns_seq (sns_asg (snd_tupOf (snd_lc (sni_rng1 snd_var) sng_name (by decide) snd_yes (snd_call (snd_cons snd_var (snd_cons snd_var snd_nil))))))
  (sns_seq (sns_if (snd_test (snd_ne (snd_repr (snd_lst (snd_cons (snd_callS0 (snd_cons snd_var (snd_cons snd_var (snd_cons snd_var snd_nil)))) (snd_cons (snd_callS0 (snd_cons snd_var (snd_cons snd_var (snd_cons snd_var snd_nil)))) snd_nil)))) (snd_repr (snd_lst (snd_cons snd_var (snd_cons snd_var snd_nil)))))) (sns_ret snd_bl) sns_next)
  (sns_seq (sns_asg (snd_call (snd_cons snd_var snd_nil)))
  (sns_seq (sns_for (sni_tup snd_var) sgo_name (sns_seq (sns_asg (snd_call (snd_cons snd_var (snd_cons snd_var (snd_cons snd_var snd_nil)))))
  (sns_if (snd_test (snd_isN snd_var snd_non)) (sns_ret snd_bl) sns_next)))
  (sns_ret snd_bl))))))⟩)⟩
def m_law_refused_right : VS := (sSeq (sFor (iT (vTup (aCons (vTup (aCons (vC .none) (aCons (vTup aNil) aNil))) (aCons (vTup (aCons (vTup (aCons (vC (.int 4)) (aCons (vTup (aCons (vC (.int 2)) aNil)) aNil))) (aCons (vTup (aCons (vC (.int 0)) aNil)) aNil))) (aCons (vTup (aCons (vTup (aCons (vC (.int 1)) (aCons (vTup (aCons (vC (.int 0)) aNil)) aNil))) (aCons (vTup (aCons (vC (.int 1)) (aCons (vC (.int 0)) aNil))) aNil))) aNil))))) (g2 (gN 2) (gN 3)) (sSeq (sAsg 4 (vLst (aCons (vSaid tagS (vCallS F_day_by (aCons (vVar 2) (aCons (vC .none) (aCons (vC .none) aNil))))) (aCons (vSaid tagS (vCallS F_next_by (aCons (vVar 2) (aCons (vC .none) (aCons (vC .none) (aCons (vC .none) aNil)))))) aNil))))
  (sIf (tV (vNeD (vCat (vVar 4) (vLst (aCons (vSaid tagS (vCallS F_row_by (aCons (vVar 2) (aCons (vC .none) (aCons (vC .none) aNil))))) aNil))) (vRepL (vLst (aCons (vTup (aCons (vC (.str "plan")) (aCons (vVar 3) aNil))) aNil)) (vC (.int 3))))) (sRet (vC (.bool false))) sNext)))
  (sSeq (sFor (iT (vTup (aCons (vC .none) (aCons (vTup aNil) (aCons (vListOf (vVar 1)) (aCons (vSlT (vVar 1) oNone (oSome (vUn (fun i => -i) (vC (.int 1))))) (aCons (vCatT (vVar 1) (vVar 1)) (aCons (vCatT (vSlT (vVar 1) oNone (oSome (vUn (fun i => -i) (vC (.int 1))))) (vTup (aCons (vC .none) aNil))) (aCons vDNew (aCons (vC (.str "parts")) aNil)))))))))) (gN 2) (sSeq (sAsg 4 (vLst (aCons (vSaid tagS (vCallS F_day_by (aCons (vVar 0) (aCons (vVar 2) (aCons (vC .none) aNil))))) (aCons (vSaid tagS (vCallS F_next_by (aCons (vVar 0) (aCons (vVar 2) (aCons (vC .none) (aCons (vC .none) aNil)))))) aNil))))
  (sIf (tV (vNe (vRepr (vCat (vVar 4) (vLst (aCons (vSaid tagS (vCallS F_row_by (aCons (vVar 0) (aCons (vVar 2) (aCons (vC .none) aNil))))) aNil)))) (vRepr (vRepL (vLst (aCons (vTup (aCons (vC (.str "parts")) (aCons (vVar 2) aNil))) aNil)) (vC (.int 3)))))) (sRet (vC (.bool false))) sNext)))
  (sSeq (sFor (iT (vTup (aCons (vC .none) (aCons (vInt (fun i j => i - j) (vC (.int 0)) (vC (.int 1))) (aCons (vInt (fun i j => i + j) (vIntC CPow (fun i j => i ^ j.toNat) (vC (.int 10)) (vC (.int 30))) (vC (.int 1))) (aCons (vC (.bool true)) (aCons (vC (.str "1")) (aCons (vTup (aCons (vC (.int 1)) aNil)) aNil)))))))) (gN 2) (sSeq (sAsg 4 (vLst (aCons (vSaid tagS (vCallS F_day_by (aCons (vVar 0) (aCons (vVar 1) (aCons (vVar 2) aNil))))) (aCons (vSaid tagS (vCallS F_next_by (aCons (vVar 0) (aCons (vVar 1) (aCons (vC (.int 0)) (aCons (vVar 2) aNil)))))) aNil))))
  (sIf (tV (vNe (vRepr (vVar 4)) (vRepr (vRepL (vLst (aCons (vTup (aCons (vC (.str "number")) (aCons (vVar 2) aNil))) aNil)) (vC (.int 2)))))) (sRet (vC (.bool false))) sNext)))
  (sSeq (sFor (iT (vTup (aCons (vC .none) (aCons (vInt (fun i j => i - j) (vC (.int 0)) (vC (.int 1))) (aCons (vLen (vVar 1)) (aCons (vC (.bool true)) (aCons (vC (.str "0")) aNil))))))) (gN 2) (sIf (tV (vNe (vRepr (vSaid tagS (vCallS F_next_by (aCons (vVar 0) (aCons (vVar 1) (aCons (vVar 2) (aCons (vC .none) aNil))))))) (vRepr (vTup (aCons (vC (.str "number")) (aCons (vVar 2) aNil)))))) (sRet (vC (.bool false))) sNext))
  (sSeq (sFor (iT (vTup (aCons (vC .none) (aCons (vInt (fun i j => i - j) (vC (.int 0)) (vC (.int 1))) (aCons (vC (.int 1001)) (aCons (vC (.bool true)) (aCons (vC (.str "1")) (aCons (vTup (aCons (vC (.int 1)) aNil)) aNil)))))))) (gN 2) (sIf (tV (vNe (vRepr (vSaid tagS (vCallS F_row_by (aCons (vVar 0) (aCons (vVar 1) (aCons (vVar 2) aNil)))))) (vRepr (vTup (aCons (vC (.str "number")) (aCons (vVar 2) aNil)))))) (sRet (vC (.bool false))) sNext))
  (sRet (vC (.bool true))))))))
def F_law_refused_right : List DVal → T DVal := fnT 2 ["frame", "sheet", "odd", "place", "told"] m_law_refused_right
theorem sc_law_refused_right : FnScope ["frame", "sheet", "odd", "place", "told"] ["frame", "sheet"] (defScope s_law_refused_right) := ⟨rfl, rfl, rfl, by decide +kernel, rfl, by decide +kernel, by decide +kernel⟩
theorem h_law_refused_right (T : Tx P K mg t0 t1 t2 t3 t4 CP fP CN fN CR fR) (ap : Apart K mg CT CP CN CR) (X_day_by : Fd P w K mg base "day_by" ["plan", "parts", "day"] (L2.CX P w) 7 (spT (Ts := Ts) (cm := cmS CP CN CR) F_day_by)) (X_next_by : Fd P w K mg base "next_by" ["plan", "parts", "number", "day"] (L2.CX P w) 7 (spT (Ts := Ts) (cm := cmS CP CN CR) F_next_by)) (X_row_by : Fd P w K mg base "row_by" ["plan", "parts", "many"] (L2.CX P w) 7 (spT (Ts := Ts) (cm := cmS CP CN CR) F_row_by)) (hb : ∃ o, base.get? sysModules = some o) {cA PB : Addr} (AC : AtC K mg "_law_refused_right" s_law_refused_right ["frame", "sheet"] cA) (TB : TabB base mg cA PB) (hmT : (PB, lamQ "_law_refused_right") ∈ Ts) (huT : ∀ p ∈ Ts, p.1 = PB → p.2 = lamQ "_law_refused_right") : FdG P w K mg base "_law_refused_right" ["frame", "sheet"] CX0 10 (spT (Ts := Ts) (cm := cmS CP CN CR) F_law_refused_right) := by
  obtain ⟨f, oc, kV, doc, pm, ct, od, an, osl, lk, hcd, gg, kp, bb⟩ := AC.ex
  obtain ⟨fS, fdS, AS⟩ := T.a_law_said
  obtain ⟨oc, od, kV, doc, pm, an, cdv, ct, osl, rfl, lk_said, hcd_said⟩ := AS.F.ex
  have g_law_said := AS.g
  have kp_law_said := AS.F.kp
  have b_law_said := AS.b
  obtain ⟨_, _, g_day_by, kp_day_by, b_day_by, G_day_by⟩ := X_day_by.ex
  obtain ⟨_, _, g_next_by, kp_next_by, b_next_by, G_next_by⟩ := X_next_by.ex
  obtain ⟨_, _, g_row_by, kp_row_by, b_row_by, G_row_by⟩ := X_row_by.ex
  have nd := sc_law_refused_right.nd
  exact ⟨f, _, gg, kp, bb, fnG_of lk hcd sc_law_refused_right (fun vs H Q E h => spG_len h fun _ _ _ _ _ z => spT_len z) (fun A outer s H vs Q E gA hr h => ⟨_, PSs.nox (pss_cons (ps_for PassesOwn.never rfl (pi_tupK (K := K) rfl (pe_tup (pa_cons (pe_tup (pa_cons pe_non (pa_cons (pe_tup pa_nil) pa_nil))) (pa_cons (pe_tup (pa_cons (pe_tup (pa_cons pe_int (pa_cons (pe_tup (pa_cons pe_int pa_nil)) pa_nil))) (pa_cons (pe_tup (pa_cons pe_int pa_nil)) pa_nil))) (pa_cons (pe_tup (pa_cons (pe_tup (pa_cons pe_int (pa_cons (pe_tup (pa_cons pe_int pa_nil)) pa_nil))) (pa_cons (pe_tup (pa_cons pe_int (pa_cons pe_int pa_nil))) pa_nil))) pa_nil))))) (pg_tup (by rfl) (pgs_cons (pg_name (i := 2) nd rfl (Or.inr rfl)) (pgs_cons (pg_name (i := 3) nd rfl (Or.inl rfl)) pgs_nil))) (pss_cons (ps_set (i := 4) nd rfl (Or.inl rfl) (pe_lst (pa_cons (pe_lamcall (T := Ts) (TT := TTd2 (GdS CP CN CR)) (k := 7) (t := fun E => tCallS (spG (spT (Ts := Ts) (cm := cmS CP CN CR) F_day_by)) (WE fun cls d _ H => E cls d H) (tCons (tVar 2) (tCons (tC .non) (tCons (tC .non) tNil)))) rfl g_law_said kp_law_said lk_said hcd_said b_law_said sc_law_said rfl (.inl rfl) (by exact said_gives T ap) TB rfl hmT huT (hr.mono (by decide)) (lamS_by (sc := defScope s_law_refused_right) (by decide +kernel)) rfl (fun _ _ _ _ _ => rfl) (fun A outer s H E f c' hr5 => by exact (pe_callS G_day_by hr5 rfl g_day_by kp_day_by b_day_by (fun σ => passAt (takes_of rfl rfl rfl rfl) σ) (by exact (pa_cons (pv 2) (pa_cons pe_non (pa_cons pe_non pa_nil))))))) (pa_cons (pe_lamcallD (T := Ts) (TT := TTd2 (GdS CP CN CR)) (k := 7) (i0 := 0) (bs := fun t => [("n", .int 0 t)]) (t := fun E => tCallS (spG (spT (Ts := Ts) (cm := cmS CP CN CR) F_next_by)) (WE fun cls d _ H => E cls d H) (tCons (tVar 2) (tCons (tC .non) (tCons (tC .non) (tCons (tC .non) tNil))))) rfl g_law_said kp_law_said lk_said hcd_said b_law_said sc_law_said rfl (.inl rfl) (by exact said_gives T ap) TB rfl hmT huT (hr.mono (by decide)) (lamD_by (N := ["frame", "sheet", "odd", "place", "told"]) (sc := defScope s_law_refused_right) (by decide +kernel)) rfl rfl (fun s T0 t doc pm cv ctv h => .of_defaults (items := #[.int 0 t]) rfl h rfl rfl rfl) (fun t y hy => by rw [List.mem_singleton.mp hy]; rfl) (fun A outer s H E f c' hr5 => by exact (pe_callS G_next_by hr5 rfl g_next_by kp_next_by b_next_by (fun σ => passAt (takes_of rfl rfl rfl rfl) σ) (by exact (pa_cons (pv 2) (pa_cons pe_non (pa_cons pe_non (pa_cons pe_non pa_nil)))))))) pa_nil))))
      (pss_one (ps_if (pt_cmpR (op_neDK (K := K) rfl hr.units) (pe_op op_cat (pv 4) (pe_lst (pa_cons (pe_lamcall (T := Ts) (TT := TTd2 (GdS CP CN CR)) (k := 7) (t := fun E => tCallS (spG (spT (Ts := Ts) (cm := cmS CP CN CR) F_row_by)) (WE fun cls d _ H => E cls d H) (tCons (tVar 2) (tCons (tC .non) (tCons (tC .non) tNil)))) rfl g_law_said kp_law_said lk_said hcd_said b_law_said sc_law_said rfl (.inl rfl) (by exact said_gives T ap) TB rfl hmT huT (hr.mono (by decide)) (lamS_by (sc := defScope s_law_refused_right) (by decide +kernel)) rfl (fun _ _ _ _ _ => rfl) (fun A outer s H E f c' hr5 => by exact (pe_callS G_row_by hr5 rfl g_row_by kp_row_by b_row_by (fun σ => passAt (takes_of rfl rfl rfl rfl) σ) (by exact (pa_cons (pv 2) (pa_cons pe_non (pa_cons pe_non pa_nil))))))) pa_nil))) (pe_op op_rep (pe_lst (pa_cons (pe_tup (pa_cons pe_str (pa_cons (pv 3) pa_nil))) pa_nil)) pe_int) (nomark _)) (pss_one (ps_ret pe_bl)) pss_nil))))
      (pss_cons (ps_for PassesOwn.never rfl (pi_tupK (K := K) rfl (pe_tup (pa_cons pe_non (pa_cons (pe_tup pa_nil) (pa_cons (pe_callTy (call_listK (K := K) rfl) (by rfl) T.n_list (by decide +kernel) (pa_cons (pv 1) pa_nil)) (pa_cons (pe_slice (sl_tupAK (K := K) rfl) (pv 1) po_none (po_some (pe_un un_neg pe_int))) (pa_cons (pe_op (op_catAK (K := K) rfl) (pv 1) (pv 1)) (pa_cons (pe_op (op_catAK (K := K) rfl) (pe_slice (sl_tupAK (K := K) rfl) (pv 1) po_none (po_some (pe_un un_neg pe_int))) (pe_tup (pa_cons pe_non pa_nil))) (pa_cons pe_dnewK (pa_cons pe_str pa_nil)))))))))) (pg_name (i := 2) nd rfl (Or.inr rfl)) (pss_cons (ps_set (i := 4) nd rfl (Or.inl rfl) (pe_lst (pa_cons (pe_lamcall (T := Ts) (TT := TTd2 (GdS CP CN CR)) (k := 7) (t := fun E => tCallS (spG (spT (Ts := Ts) (cm := cmS CP CN CR) F_day_by)) (WE fun cls d _ H => E cls d H) (tCons (tVar 0) (tCons (tVar 2) (tCons (tC .non) tNil)))) rfl g_law_said kp_law_said lk_said hcd_said b_law_said sc_law_said rfl (.inl rfl) (by exact said_gives T ap) TB rfl hmT huT (hr.mono (by decide)) (lamS_by (sc := defScope s_law_refused_right) (by decide +kernel)) rfl (fun _ _ _ _ _ => rfl) (fun A outer s H E f c' hr5 => by exact (pe_callS G_day_by hr5 rfl g_day_by kp_day_by b_day_by (fun σ => passAt (takes_of rfl rfl rfl rfl) σ) (by exact (pa_cons (pv 0) (pa_cons (pv 2) (pa_cons pe_non pa_nil))))))) (pa_cons (pe_lamcallD (T := Ts) (TT := TTd2 (GdS CP CN CR)) (k := 7) (i0 := 0) (bs := fun t => [("n", .int 0 t)]) (t := fun E => tCallS (spG (spT (Ts := Ts) (cm := cmS CP CN CR) F_next_by)) (WE fun cls d _ H => E cls d H) (tCons (tVar 0) (tCons (tVar 2) (tCons (tC .non) (tCons (tC .non) tNil))))) rfl g_law_said kp_law_said lk_said hcd_said b_law_said sc_law_said rfl (.inl rfl) (by exact said_gives T ap) TB rfl hmT huT (hr.mono (by decide)) (lamD_by (N := ["frame", "sheet", "odd", "place", "told"]) (sc := defScope s_law_refused_right) (by decide +kernel)) rfl rfl (fun s T0 t doc pm cv ctv h => .of_defaults (items := #[.int 0 t]) rfl h rfl rfl rfl) (fun t y hy => by rw [List.mem_singleton.mp hy]; rfl) (fun A outer s H E f c' hr5 => by exact (pe_callS G_next_by hr5 rfl g_next_by kp_next_by b_next_by (fun σ => passAt (takes_of rfl rfl rfl rfl) σ) (by exact (pa_cons (pv 0) (pa_cons (pv 2) (pa_cons pe_non (pa_cons pe_non pa_nil)))))))) pa_nil))))
      (pss_one (ps_if (pt_cmpR op_ne (pe_callB (call_repr gA hr.units hb) (by rfl) T.n_repr (by decide +kernel) (pa_cons (pe_op op_cat (pv 4) (pe_lst (pa_cons (pe_lamcall (T := Ts) (TT := TTd2 (GdS CP CN CR)) (k := 7) (t := fun E => tCallS (spG (spT (Ts := Ts) (cm := cmS CP CN CR) F_row_by)) (WE fun cls d _ H => E cls d H) (tCons (tVar 0) (tCons (tVar 2) (tCons (tC .non) tNil)))) rfl g_law_said kp_law_said lk_said hcd_said b_law_said sc_law_said rfl (.inl rfl) (by exact said_gives T ap) TB rfl hmT huT (hr.mono (by decide)) (lamS_by (sc := defScope s_law_refused_right) (by decide +kernel)) rfl (fun _ _ _ _ _ => rfl) (fun A outer s H E f c' hr5 => by exact (pe_callS G_row_by hr5 rfl g_row_by kp_row_by b_row_by (fun σ => passAt (takes_of rfl rfl rfl rfl) σ) (by exact (pa_cons (pv 0) (pa_cons (pv 2) (pa_cons pe_non pa_nil))))))) pa_nil))) pa_nil)) (pe_callB (call_repr gA hr.units hb) (by rfl) T.n_repr (by decide +kernel) (pa_cons (pe_op op_rep (pe_lst (pa_cons (pe_tup (pa_cons pe_str (pa_cons (pv 2) pa_nil))) pa_nil)) pe_int) pa_nil)) (nomark _)) (pss_one (ps_ret pe_bl)) pss_nil))))
      (pss_cons (ps_for PassesOwn.never rfl (pi_tupK (K := K) rfl (pe_tup (pa_cons pe_non (pa_cons (pe_op op_sub pe_int pe_int) (pa_cons (pe_op op_add (pe_op op_pow pe_int pe_int) pe_int) (pa_cons pe_bl (pa_cons pe_str (pa_cons (pe_tup (pa_cons pe_int pa_nil)) pa_nil)))))))) (pg_name (i := 2) nd rfl (Or.inr rfl)) (pss_cons (ps_set (i := 4) nd rfl (Or.inl rfl) (pe_lst (pa_cons (pe_lamcall (T := Ts) (TT := TTd2 (GdS CP CN CR)) (k := 7) (t := fun E => tCallS (spG (spT (Ts := Ts) (cm := cmS CP CN CR) F_day_by)) (WE fun cls d _ H => E cls d H) (tCons (tVar 0) (tCons (tVar 1) (tCons (tVar 2) tNil)))) rfl g_law_said kp_law_said lk_said hcd_said b_law_said sc_law_said rfl (.inl rfl) (by exact said_gives T ap) TB rfl hmT huT (hr.mono (by decide)) (lamS_by (sc := defScope s_law_refused_right) (by decide +kernel)) rfl (fun _ _ _ _ _ => rfl) (fun A outer s H E f c' hr5 => by exact (pe_callS G_day_by hr5 rfl g_day_by kp_day_by b_day_by (fun σ => passAt (takes_of rfl rfl rfl rfl) σ) (by exact (pa_cons (pv 0) (pa_cons (pv 1) (pa_cons (pv 2) pa_nil))))))) (pa_cons (pe_lamcallD (T := Ts) (TT := TTd2 (GdS CP CN CR)) (k := 7) (i0 := 0) (bs := fun t => [("n", .int 0 t)]) (t := fun E => tCallS (spG (spT (Ts := Ts) (cm := cmS CP CN CR) F_next_by)) (WE fun cls d _ H => E cls d H) (tCons (tVar 0) (tCons (tVar 1) (tCons (tC (.int 0)) (tCons (tVar 2) tNil))))) rfl g_law_said kp_law_said lk_said hcd_said b_law_said sc_law_said rfl (.inl rfl) (by exact said_gives T ap) TB rfl hmT huT (hr.mono (by decide)) (lamD_by (N := ["frame", "sheet", "odd", "place", "told"]) (sc := defScope s_law_refused_right) (by decide +kernel)) rfl rfl (fun s T0 t doc pm cv ctv h => .of_defaults (items := #[.int 0 t]) rfl h rfl rfl rfl) (fun t y hy => by rw [List.mem_singleton.mp hy]; rfl) (fun A outer s H E f c' hr5 => by exact (pe_callS G_next_by hr5 rfl g_next_by kp_next_by b_next_by (fun σ => passAt (takes_of rfl rfl rfl rfl) σ) (by exact (pa_cons (pv 0) (pa_cons (pv 1) (pa_cons pe_int (pa_cons (pv 2) pa_nil)))))))) pa_nil))))
      (pss_one (ps_if (pt_cmpR op_ne (pe_callB (call_repr gA hr.units hb) (by rfl) T.n_repr (by decide +kernel) (pa_cons (pv 4) pa_nil)) (pe_callB (call_repr gA hr.units hb) (by rfl) T.n_repr (by decide +kernel) (pa_cons (pe_op op_rep (pe_lst (pa_cons (pe_tup (pa_cons pe_str (pa_cons (pv 2) pa_nil))) pa_nil)) pe_int) pa_nil)) (nomark _)) (pss_one (ps_ret pe_bl)) pss_nil))))
      (pss_cons (ps_for PassesOwn.never rfl (pi_tupK (K := K) rfl (pe_tup (pa_cons pe_non (pa_cons (pe_op op_sub pe_int pe_int) (pa_cons (pe_callB (call_lenK (K := K) rfl) (by rfl) T.n_len PySem.boot_len (pa_cons (pv 1) pa_nil)) (pa_cons pe_bl (pa_cons pe_str pa_nil))))))) (pg_name (i := 2) nd rfl (Or.inr rfl)) (pss_one (ps_if (pt_cmpR op_ne (pe_callB (call_repr gA hr.units hb) (by rfl) T.n_repr (by decide +kernel) (pa_cons (pe_lamcall (T := Ts) (TT := TTd2 (GdS CP CN CR)) (k := 7) (t := fun E => tCallS (spG (spT (Ts := Ts) (cm := cmS CP CN CR) F_next_by)) (WE fun cls d _ H => E cls d H) (tCons (tVar 0) (tCons (tVar 1) (tCons (tVar 2) (tCons (tC .non) tNil))))) rfl g_law_said kp_law_said lk_said hcd_said b_law_said sc_law_said rfl (.inl rfl) (by exact said_gives T ap) TB rfl hmT huT (hr.mono (by decide)) (lamS_by (sc := defScope s_law_refused_right) (by decide +kernel)) rfl (fun _ _ _ _ _ => rfl) (fun A outer s H E f c' hr5 => by exact (pe_callS G_next_by hr5 rfl g_next_by kp_next_by b_next_by (fun σ => passAt (takes_of rfl rfl rfl rfl) σ) (by exact (pa_cons (pv 0) (pa_cons (pv 1) (pa_cons (pv 2) (pa_cons pe_non pa_nil)))))))) pa_nil)) (pe_callB (call_repr gA hr.units hb) (by rfl) T.n_repr (by decide +kernel) (pa_cons (pe_tup (pa_cons pe_str (pa_cons (pv 2) pa_nil))) pa_nil)) (nomark _)) (pss_one (ps_ret pe_bl)) pss_nil)))
      (pss_cons (ps_for PassesOwn.never rfl (pi_tupK (K := K) rfl (pe_tup (pa_cons pe_non (pa_cons (pe_op op_sub pe_int pe_int) (pa_cons pe_int (pa_cons pe_bl (pa_cons pe_str (pa_cons (pe_tup (pa_cons pe_int pa_nil)) pa_nil)))))))) (pg_name (i := 2) nd rfl (Or.inr rfl)) (pss_one (ps_if (pt_cmpR op_ne (pe_callB (call_repr gA hr.units hb) (by rfl) T.n_repr (by decide +kernel) (pa_cons (pe_lamcall (T := Ts) (TT := TTd2 (GdS CP CN CR)) (k := 7) (t := fun E => tCallS (spG (spT (Ts := Ts) (cm := cmS CP CN CR) F_row_by)) (WE fun cls d _ H => E cls d H) (tCons (tVar 0) (tCons (tVar 1) (tCons (tVar 2) tNil)))) rfl g_law_said kp_law_said lk_said hcd_said b_law_said sc_law_said rfl (.inl rfl) (by exact said_gives T ap) TB rfl hmT huT (hr.mono (by decide)) (lamS_by (sc := defScope s_law_refused_right) (by decide +kernel)) rfl (fun _ _ _ _ _ => rfl) (fun A outer s H E f c' hr5 => by exact (pe_callS G_row_by hr5 rfl g_row_by kp_row_by b_row_by (fun σ => passAt (takes_of rfl rfl rfl rfl) σ) (by exact (pa_cons (pv 0) (pa_cons (pv 1) (pa_cons (pv 2) pa_nil))))))) pa_nil)) (pe_callB (call_repr gA hr.units hb) (by rfl) T.n_repr (by decide +kernel) (pa_cons (pe_tup (pa_cons pe_str (pa_cons (pv 2) pa_nil))) pa_nil)) (nomark _)) (pss_one (ps_ret pe_bl)) pss_nil)))
      (pss_one (ps_ret pe_bl))))))),
    run1 h (sns_seq (sns_for (sni_tup (snd_tup (snd_cons (snd_tup (snd_cons snd_non (snd_cons (snd_tup snd_nil) snd_nil))) (snd_cons (snd_tup (snd_cons (snd_tup (snd_cons snd_int (snd_cons (snd_tup (snd_cons snd_int snd_nil)) snd_nil))) (snd_cons (snd_tup (snd_cons snd_int snd_nil)) snd_nil))) (snd_cons (snd_tup (snd_cons (snd_tup (snd_cons snd_int (snd_cons (snd_tup (snd_cons snd_int snd_nil)) snd_nil))) (snd_cons (snd_tup (snd_cons snd_int (snd_cons snd_int snd_nil))) snd_nil))) snd_nil))))) (sgo_two (by with_unfolding_all rfl) sgo_name sgo_name) (sns_seq (sns_asg (snd_lst (snd_cons (snd_said2 gdS_ok gdS_exc (fun _ => snd_callS (snd_cons snd_var (snd_cons snd_non (snd_cons snd_non snd_nil))))) (snd_cons (snd_said2 gdS_ok gdS_exc (fun _ => snd_callS (snd_cons snd_var (snd_cons snd_non (snd_cons snd_non (snd_cons snd_non snd_nil)))))) snd_nil))))
  (sns_if (snd_test (snd_neD (snd_cat snd_var (snd_lst (snd_cons (snd_said2 gdS_ok gdS_exc (fun _ => snd_callS (snd_cons snd_var (snd_cons snd_non (snd_cons snd_non snd_nil))))) snd_nil))) (snd_repL (snd_lst (snd_cons (snd_tup (snd_cons snd_str (snd_cons snd_var snd_nil))) snd_nil)) snd_int))) (sns_ret snd_bl) sns_next)))
  (sns_seq (sns_for (sni_tup (snd_tup (snd_cons snd_non (snd_cons (snd_tup snd_nil) (snd_cons (snd_listOf snd_var) (snd_cons (snd_slT snd_var snd_oNone (snd_oSome (snd_un snd_int))) (snd_cons (snd_catT snd_var snd_var) (snd_cons (snd_catT (snd_slT snd_var snd_oNone (snd_oSome (snd_un snd_int))) (snd_tup (snd_cons snd_non snd_nil))) (snd_cons snd_dnew (snd_cons snd_str snd_nil)))))))))) sgo_name (sns_seq (sns_asg (snd_lst (snd_cons (snd_said2 gdS_ok gdS_exc (fun _ => snd_callS (snd_cons snd_var (snd_cons snd_var (snd_cons snd_non snd_nil))))) (snd_cons (snd_said2 gdS_ok gdS_exc (fun _ => snd_callS (snd_cons snd_var (snd_cons snd_var (snd_cons snd_non (snd_cons snd_non snd_nil)))))) snd_nil))))
  (sns_if (snd_test (snd_ne (snd_repr (snd_cat snd_var (snd_lst (snd_cons (snd_said2 gdS_ok gdS_exc (fun _ => snd_callS (snd_cons snd_var (snd_cons snd_var (snd_cons snd_non snd_nil))))) snd_nil)))) (snd_repr (snd_repL (snd_lst (snd_cons (snd_tup (snd_cons snd_str (snd_cons snd_var snd_nil))) snd_nil)) snd_int)))) (sns_ret snd_bl) sns_next)))
  (sns_seq (sns_for (sni_tup (snd_tup (snd_cons snd_non (snd_cons (snd_op0 snd_int snd_int) (snd_cons (snd_op0 (snd_opC snd_int snd_int) snd_int) (snd_cons snd_bl (snd_cons snd_str (snd_cons (snd_tup (snd_cons snd_int snd_nil)) snd_nil)))))))) sgo_name (sns_seq (sns_asg (snd_lst (snd_cons (snd_said2 gdS_ok gdS_exc (fun _ => snd_callS (snd_cons snd_var (snd_cons snd_var (snd_cons snd_var snd_nil))))) (snd_cons (snd_said2 gdS_ok gdS_exc (fun _ => snd_callS (snd_cons snd_var (snd_cons snd_var (snd_cons snd_int (snd_cons snd_var snd_nil)))))) snd_nil))))
  (sns_if (snd_test (snd_ne (snd_repr snd_var) (snd_repr (snd_repL (snd_lst (snd_cons (snd_tup (snd_cons snd_str (snd_cons snd_var snd_nil))) snd_nil)) snd_int)))) (sns_ret snd_bl) sns_next)))
  (sns_seq (sns_for (sni_tup (snd_tup (snd_cons snd_non (snd_cons (snd_op0 snd_int snd_int) (snd_cons (snd_len snd_var) (snd_cons snd_bl (snd_cons snd_str snd_nil))))))) sgo_name (sns_if (snd_test (snd_ne (snd_repr (snd_said2 gdS_ok gdS_exc (fun _ => snd_callS (snd_cons snd_var (snd_cons snd_var (snd_cons snd_var (snd_cons snd_non snd_nil))))))) (snd_repr (snd_tup (snd_cons snd_str (snd_cons snd_var snd_nil)))))) (sns_ret snd_bl) sns_next))
  (sns_seq (sns_for (sni_tup (snd_tup (snd_cons snd_non (snd_cons (snd_op0 snd_int snd_int) (snd_cons snd_int (snd_cons snd_bl (snd_cons snd_str (snd_cons (snd_tup (snd_cons snd_int snd_nil)) snd_nil)))))))) sgo_name (sns_if (snd_test (snd_ne (snd_repr (snd_said2 gdS_ok gdS_exc (fun _ => snd_callS (snd_cons snd_var (snd_cons snd_var (snd_cons snd_var snd_nil)))))) (snd_repr (snd_tup (snd_cons snd_str (snd_cons snd_var snd_nil)))))) (sns_ret snd_bl) sns_next))
  (sns_ret snd_bl))))))⟩)⟩
end
end K13
set_option Elab.async false
set_option linter.all false
set_option maxRecDepth 100000
set_option maxHeartbeats 4000000
namespace K13
open PySem L2 Gd PySem.ExG DC CpComb LamX RZ
set_option exponentiation.threshold 10000
section
variable {P : Program} {w : World} {K : PySem.W.Frag} {mg : Str → Option Value} {base : Heap} {t0 t1 t2 t3 t4 : Tok} {CP fP CN fN CR fR : Addr} {CT : Addr} {Ts : List (Addr × Str)}
def m_law_pre : VS := sNext
def m_law_body : VS := (sSeq (sUnp (g2 (gN 3) (gN 4)) (vCall F_law_made (aCons (vVar 2) aNil)))
  (sSeq (sAsg 5 (vRepr (vLst (aCons (vVar 3) (aCons (vVar 4) aNil)))))
  (sSeq (sIf (tO (tN (tV (vCall F_law_days_right (aCons (vVar 2) (aCons (vVar 3) (aCons (vVar 4) aNil)))))) (tN (tV (vCall F_law_row_right (aCons (vVar 2) (aCons (vVar 3) (aCons (vVar 4) aNil))))))) (sRet (vC (.bool false))) sNext)
  (sIf (tO (tN (tV (vCall F_law_refused_right (aCons (vVar 3) (aCons (vVar 4) aNil))))) (tV (vNe (vRepr (vLst (aCons (vVar 3) (aCons (vVar 4) aNil)))) (vVar 5)))) (sRet (vC (.bool false))) sNext))))
def m_law_post : VS := (sSeq (sUnp (g2 (gN 3) (gN 4)) (vTup (aCons (vTup (aCons (vC (.int 1)) (aCons (vTup (aCons (vC (.int 2)) (aCons (vC (.int 4)) (aCons (vC (.int 5)) aNil)))) aNil))) (aCons (vTup (aCons (vTup (aCons (vC (.int 0)) (aCons (vC (.int 2)) (aCons (vC (.int 0)) aNil)))) (aCons (vTup (aCons (vC (.int 0)) (aCons (vC (.int 4)) (aCons (vC (.int 1)) aNil)))) (aCons (vTup (aCons (vC (.int 0)) (aCons (vC (.int 4)) (aCons (vC (.int 3)) aNil)))) aNil)))) aNil))))
  (sSeq (sAsg 6 (vLst (aCons (vCall F_row_by (aCons (vVar 3) (aCons (vVar 4) (aCons (vC (.int 5)) aNil)))) (aCons (vCall F_next_by (aCons (vVar 3) (aCons (vVar 4) (aCons (vC (.int 2)) (aCons (vC (.int 4)) aNil))))) (aCons (vCall F_day_by (aCons (vVar 3) (aCons (vVar 4) (aCons (vIntC CPow (fun i j => i ^ j.toNat) (vC (.int 10)) (vC (.int 30))) aNil)))) aNil)))))
  (sRet (vAnd (vEqD (vVar 6) (vLst (aCons (vTup (aCons (vTup (aCons (vC (.int 0)) aNil)) (aCons (vTup (aCons (vC (.int 1)) aNil)) (aCons (vTup (aCons (vC (.int 0)) aNil)) (aCons (vTup (aCons (vC (.int 2)) aNil)) (aCons (vTup (aCons (vC (.int 0)) aNil)) aNil)))))) (aCons (vC (.int 7)) (aCons (vTup (aCons (vC (.int 0)) aNil)) aNil))))) (vEq (vLen (vCall F_row_by (aCons (vVar 3) (aCons (vVar 4) (aCons (vC (.int 1000)) aNil))))) (vC (.int 1000)))))))
theorem sc_law : FnScope ["script", "k", "m", "frame", "sheet", "kept", "told"] ["script"] (defScope s_law) := ⟨rfl, rfl, rfl, by decide +kernel, rfl, by decide +kernel, by decide +kernel⟩
theorem ok_law {f : Addr} {fd : FuncData} (F : Fun K "law" "law" s_law f fd) (T : Tx P K mg t0 t1 t2 t3 t4 CP fP CN fN CR fR) (X_law_made : Fd P w K mg base "_law_made" ["m"] CX0 3 (spT (Ts := Ts) (cm := cmS CP CN CR) F_law_made)) (X_row_by : Fd P w K mg base "row_by" ["plan", "parts", "many"] (L2.CX P w) 7 (spT (Ts := Ts) (cm := cmS CP CN CR) F_row_by)) (X_next_by : Fd P w K mg base "next_by" ["plan", "parts", "number", "day"] (L2.CX P w) 7 (spT (Ts := Ts) (cm := cmS CP CN CR) F_next_by)) (X_day_by : Fd P w K mg base "day_by" ["plan", "parts", "day"] (L2.CX P w) 7 (spT (Ts := Ts) (cm := cmS CP CN CR) F_day_by)) (X_law_days_right : FdG P w K mg base "_law_days_right" ["m", "frame", "sheet"] CX0 8 (spT (Ts := Ts) (cm := cmS CP CN CR) F_law_days_right)) (X_law_row_right : FdG P w K mg base "_law_row_right" ["m", "frame", "sheet"] CX0 8 (spT (Ts := Ts) (cm := cmS CP CN CR) F_law_row_right)) (X_law_refused_right : FdG P w K mg base "_law_refused_right" ["frame", "sheet"] CX0 10 (spT (Ts := Ts) (cm := cmS CP CN CR) F_law_refused_right)) (hb : ∃ o, base.get? sysModules = some o) (hPre : PreOk 7 m_law_pre) (hBody : BodyOk 7 2 m_law_body) (hPost : PostOk 7 m_law_post) : FnG P w K mg base CX0 11 f fd ["script"] (spLaw K Ts) := by
  obtain ⟨_, _, g_law_made, kp_law_made, b_law_made, G_law_made⟩ := X_law_made.ex
  obtain ⟨_, _, g_row_by, kp_row_by, b_row_by, G_row_by⟩ := X_row_by.ex
  obtain ⟨_, _, g_next_by, kp_next_by, b_next_by, G_next_by⟩ := X_next_by.ex
  obtain ⟨_, _, g_day_by, kp_day_by, b_day_by, G_day_by⟩ := X_day_by.ex
  obtain ⟨_, _, g_law_days_right, kp_law_days_right, b_law_days_right, G_law_days_right⟩ := X_law_days_right.ex
  obtain ⟨_, _, g_law_row_right, kp_law_row_right, b_law_row_right, G_law_row_right⟩ := X_law_row_right.ex
  obtain ⟨_, _, g_law_refused_right, kp_law_refused_right, b_law_refused_right, G_law_refused_right⟩ := X_law_refused_right.ex
  obtain ⟨fB, fdB, AB⟩ := T.a_law_begun
  have G_law_begun : FnOk P w K mg base CX0 1 fB fdB ["script", "k"] (spBegunL K) := ok_begun AB.F ⟨T.n_int, T.n_len⟩
  have g_law_begun := AB.g
  have kp_law_begun := AB.F.kp
  have b_law_begun := AB.b
  have nd := sc_law.nd
  exact okG F sc_law (fun vs H Q E h => spLaw_len h) (fun cdv Ar outer s H vs Q E gA hr h => ⟨_, PSs.nox (pss_cons (ps_for PassesOwn.never rfl (pi_range1 (by rfl) T.n_range (pa_cons (pe_op op_add pe_int (pe_callB (call_min2 rfl) (by rfl) T.n_min (by decide +kernel) (pa_cons (pe_callB (call_lenK (K := K) rfl) (by rfl) T.n_len PySem.boot_len (pa_cons (pv 0) pa_nil)) (pa_cons pe_int pa_nil)))) pa_nil)) (pg_name (i := 1) nd rfl (Or.inl rfl)) (pss_cons (ps_set (i := 2) nd rfl (Or.inl rfl) (pe_call G_law_begun (hr.mono (by decide)) rfl g_law_begun kp_law_begun b_law_begun .nil pass0 (pa_cons (pv 0) (pa_cons (pv 1) pa_nil))))
      (pss_cons (ps_asg (pe_call G_law_made (hr.mono (by decide)) rfl g_law_made kp_law_made b_law_made .nil pass0 (pa_cons (pv 2) pa_nil)) (pg_tup (by rfl) (pgs_cons (pg_name (i := 3) nd rfl (Or.inl rfl)) (pgs_cons (pg_name (i := 4) nd rfl (Or.inl rfl)) pgs_nil))))
      (pss_cons (ps_set (i := 5) nd rfl (Or.inl rfl) (pe_callB (call_repr gA hr.units hb) (by rfl) T.n_repr (by decide +kernel) (pa_cons (pe_lst (pa_cons (pv 3) (pa_cons (pv 4) pa_nil))) pa_nil)))
      (pss_cons (ps_if (PW.pt (pw_or (pt_not (pt_val (pe_callG G_law_days_right gA (hr.mono (by decide)) rfl g_law_days_right kp_law_days_right b_law_days_right .nil pass0 (pa_cons (pv 2) (pa_cons (pv 3) (pa_cons (pv 4) pa_nil)))))) (pw_or1 (pt_not (pt_val (pe_callG G_law_row_right gA (hr.mono (by decide)) rfl g_law_row_right kp_law_row_right b_law_row_right .nil pass0 (pa_cons (pv 2) (pa_cons (pv 3) (pa_cons (pv 4) pa_nil))))))))) (pss_one (ps_ret pe_bl)) pss_nil)
      (pss_one (ps_if (PW.pt (pw_or (pt_not (pt_val (pe_callG G_law_refused_right gA (hr.mono (by decide)) rfl g_law_refused_right kp_law_refused_right b_law_refused_right .nil pass0 (pa_cons (pv 3) (pa_cons (pv 4) pa_nil))))) (pw_or1 (pt_cmpR op_ne (pe_callB (call_repr gA hr.units hb) (by rfl) T.n_repr (by decide +kernel) (pa_cons (pe_lst (pa_cons (pv 3) (pa_cons (pv 4) pa_nil))) pa_nil)) (pv 5) (nomark _))))) (pss_one (ps_ret pe_bl)) pss_nil)))))))
      (pss_cons (ps_asg (pe_tup (pa_cons (pe_tup (pa_cons pe_int (pa_cons (pe_tup (pa_cons pe_int (pa_cons pe_int (pa_cons pe_int pa_nil)))) pa_nil))) (pa_cons (pe_tup (pa_cons (pe_tup (pa_cons pe_int (pa_cons pe_int (pa_cons pe_int pa_nil)))) (pa_cons (pe_tup (pa_cons pe_int (pa_cons pe_int (pa_cons pe_int pa_nil)))) (pa_cons (pe_tup (pa_cons pe_int (pa_cons pe_int (pa_cons pe_int pa_nil)))) pa_nil)))) pa_nil))) (pg_tup (by rfl) (pgs_cons (pg_name (i := 3) nd rfl (Or.inl rfl)) (pgs_cons (pg_name (i := 4) nd rfl (Or.inl rfl)) pgs_nil))))
      (pss_cons (ps_set (i := 6) nd rfl (Or.inl rfl) (pe_lst (pa_cons (pe_callS G_row_by (hr.mono (by decide)) rfl g_row_by kp_row_by b_row_by (fun σ => passAt LamX.takes0 σ) (by exact (pa_cons (pv 3) (pa_cons (pv 4) (pa_cons pe_int pa_nil))))) (pa_cons (pe_callS G_next_by (hr.mono (by decide)) rfl g_next_by kp_next_by b_next_by (fun σ => passAt LamX.takes0 σ) (by exact (pa_cons (pv 3) (pa_cons (pv 4) (pa_cons pe_int (pa_cons pe_int pa_nil)))))) (pa_cons (pe_callS G_day_by (hr.mono (by decide)) rfl g_day_by kp_day_by b_day_by (fun σ => passAt LamX.takes0 σ) (by exact (pa_cons (pv 3) (pa_cons (pv 4) (pa_cons (pe_op op_pow pe_int pe_int) pa_nil))))) pa_nil)))))
      (pss_one (ps_ret (pe_and (pe_cmpR (op_eqDK (K := K) rfl hr.units) (pv 6) (pe_lst (pa_cons (pe_tup (pa_cons (pe_tup (pa_cons pe_int pa_nil)) (pa_cons (pe_tup (pa_cons pe_int pa_nil)) (pa_cons (pe_tup (pa_cons pe_int pa_nil)) (pa_cons (pe_tup (pa_cons pe_int pa_nil)) (pa_cons (pe_tup (pa_cons pe_int pa_nil)) pa_nil)))))) (pa_cons pe_int (pa_cons (pe_tup (pa_cons pe_int pa_nil)) pa_nil)))) (nomark _)) (pe_one (pe_cmpR op_eq (pe_callB (call_lenK (K := K) rfl) (by rfl) T.n_len PySem.boot_len (pa_cons (pe_callS G_row_by (hr.mono (by decide)) rfl g_row_by kp_row_by b_row_by (fun σ => passAt LamX.takes0 σ) (by exact (pa_cons (pv 3) (pa_cons (pv 4) (pa_cons pe_int pa_nil))))) pa_nil)) pe_int (nomark _))))))))),
    law_run h rfl (law_seqE (law_for (cm := cmS CP CN CR) (E := E) (by decide) (by decide) (by decide) (by decide) (sns_seq (sns_unp (snd_call (snd_cons snd_var snd_nil)) (sgo_two (by with_unfolding_all rfl) sgo_name sgo_name))
  (sns_seq (sns_asg (snd_repr (snd_lst (snd_cons snd_var (snd_cons snd_var snd_nil)))))
  (sns_seq (sns_if (snd_or (snd_not (snd_tB (snd_call (snd_cons snd_var (snd_cons snd_var (snd_cons snd_var snd_nil)))))) (snd_not (snd_tB (snd_call (snd_cons snd_var (snd_cons snd_var (snd_cons snd_var snd_nil))))))) (sns_ret snd_bl) sns_next)
  (sns_if (snd_or (snd_not (snd_tB (snd_call (snd_cons snd_var (snd_cons snd_var snd_nil))))) (snd_test (snd_ne (snd_repr (snd_lst (snd_cons snd_var (snd_cons snd_var snd_nil)))) snd_var))) (sns_ret snd_bl) sns_next)))) hBody) (law_end (cm := cmS CP CN CR) (E := E) (by decide) (sns_seq (sns_unp (snd_tup (snd_cons (snd_tup (snd_cons snd_int (snd_cons (snd_tup (snd_cons snd_int (snd_cons snd_int (snd_cons snd_int snd_nil)))) snd_nil))) (snd_cons (snd_tup (snd_cons (snd_tup (snd_cons snd_int (snd_cons snd_int (snd_cons snd_int snd_nil)))) (snd_cons (snd_tup (snd_cons snd_int (snd_cons snd_int (snd_cons snd_int snd_nil)))) (snd_cons (snd_tup (snd_cons snd_int (snd_cons snd_int (snd_cons snd_int snd_nil)))) snd_nil)))) snd_nil))) (sgo_two (by with_unfolding_all rfl) sgo_name sgo_name))
  (sns_seq (sns_asg (snd_lst (snd_cons (snd_callS0 (snd_cons snd_var (snd_cons snd_var (snd_cons snd_int snd_nil)))) (snd_cons (snd_callS0 (snd_cons snd_var (snd_cons snd_var (snd_cons snd_int (snd_cons snd_int snd_nil))))) (snd_cons (snd_callS0 (snd_cons snd_var (snd_cons snd_var (snd_cons (snd_opC snd_int snd_int) snd_nil)))) snd_nil)))))
  (sns_ret (snd_andV (snd_eqD snd_var (snd_lst (snd_cons (snd_tup (snd_cons (snd_tup (snd_cons snd_int snd_nil)) (snd_cons (snd_tup (snd_cons snd_int snd_nil)) (snd_cons (snd_tup (snd_cons snd_int snd_nil)) (snd_cons (snd_tup (snd_cons snd_int snd_nil)) (snd_cons (snd_tup (snd_cons snd_int snd_nil)) snd_nil)))))) (snd_cons snd_int (snd_cons (snd_tup (snd_cons snd_int snd_nil)) snd_nil))))) (snd_eq (snd_len (snd_callS0 (snd_cons snd_var (snd_cons snd_var (snd_cons snd_int snd_nil))))) snd_int))))) hPost))⟩)
end
end K13
set_option Elab.async false
set_option linter.all false
set_option maxRecDepth 100000
set_option maxHeartbeats 4000000
namespace DC
open PySem L2 Gd PySem.ExG CpComb LamX
set_option exponentiation.threshold 10000
def isSt (gs : List Int) : PyData → Bool
  | .tuple ds => decide (ds.length = gs.length) && (ds.zip gs).all fun p => betw p.1 1 p.2
  | _ => false
theorem isSt_tup (gs : List Int) (ds : List PyData) : isSt gs (.tuple ds) = (decide (ds.length = gs.length) && (ds.zip gs).all fun p => betw p.1 1 p.2) := rfl
/-- how many things there are -/
def gD (gs : List Int) : PyData := .tuple (gs.map .int)
/-- a day of k things, at most hi of them -/
def dayFrom (k : Nat) : Int → List PyData → Bool
  | _, [] => true
  | lo, .int i :: r => (decide (lo ≤ i) && decide (i ≤ (k : Int) - 1)) && dayFrom k (i + 1) r
  | _, _ :: _ => false
def isDay (hi : Int) (k : Nat) : PyData → Bool
  | .tuple ds => decide ((ds.length : Int) ≤ hi) && dayFrom k 0 ds
  | _ => false
theorem isDay_tup (hi : Int) (k : Nat) (ds : List PyData) : isDay hi k (.tuple ds) = (decide ((ds.length : Int) ≤ hi) && dayFrom k 0 ds) := rfl
theorem dayFrom_step {k : Nat} {lo : Int} {d : PyData} {r : List PyData} : dayFrom k lo (d :: r) = (betw d lo ((k : Int) - 1) && dayFrom k (iD d + 1) r) := by
  cases d <;> rfl
/-- all that is due is in the day -/
def dueOk (ls ns : List Int) : Bool := ls.zipIdx.all fun p => decide (1 < p.1) || ns.contains (p.2 : Int)
theorem gD_tD (ns : List Int) : gD ns = tD ns := rfl
theorem day_ints {k : Nat} : ∀ {ds : List PyData} {lo : Int}, dayFrom k lo ds = true → ds = (ds.map iD).map .int
  | [], _, _ => rfl
  | d :: r, lo, h => by
    rw [dayFrom_step, Bool.and_eq_true] at h
    obtain ⟨i, rfl, _⟩ := betw_int h.1
    rw [List.map_cons, List.map_cons, ← day_ints h.2]
    rfl
/-- the day of a thing -/
def dayOf : PyData → List Int
  | .tuple ds => ds.map iD
  | _ => []
theorem isDay_gD {hi : Int} {k : Nat} {d : PyData} (h : isDay hi k d = true) : d = gD (dayOf d) ∧ dayFrom k 0 ((dayOf d).map .int) = true ∧ ((dayOf d).length : Int) ≤ hi := by
  cases d with
  | tuple ds =>
    rw [isDay_tup, Bool.and_eq_true] at h
    have e := day_ints h.2
    refine ⟨congrArg PyData.tuple e, ?_, by show ((ds.map iD).length : Int) ≤ hi; rw [List.length_map]; exact of_decide_eq_true h.1⟩
    show dayFrom k 0 ((ds.map iD).map .int) = true
    rw [← e]
    exact h.2
  | _ => cases h
def isRt (hi : Int) (k : Nat) (ls : List Int) (d : PyData) : Bool := isDay hi k d && dueOk ls (dayOf d)
/-- all days, in order -/
def daysL (h k : Nat) : List (List Int) := sortL (((List.range (h + 1)).map fun r => (combL k r).map fun ix => ix.map fun j => ((j : Nat) : Int)).flatten)
theorem combD_t (k r : Nat) : combD k r = ((combL k r).map fun ix => ix.map fun j => ((j : Nat) : Int)).map tD := by
  unfold combD
  rw [List.map_map]
  refine List.map_congr_left fun ix _ => ?_
  show PyData.tuple _ = PyData.tuple ((ix.map fun j => ((j : Nat) : Int)).map .int)
  rw [List.map_map]
  rfl
theorem comb_small (h k : Nat) (hh : h ≤ 3) (hk : k ≤ 8) : ((List.range (h + 1)).map fun r => (combL k r).length).sum ≤ 4000 ∧ (((List.range (h + 1)).map fun r => (combL k r).map fun ix => ix.map fun j => ((j : Nat) : Int)).flatten).head? = some [] ∧ ∀ r, r < 4 → (combL k r).length ≤ 100 := by
  have z : (List.range 4).all (fun h => (List.range 9).all fun k => decide (((List.range (h + 1)).map fun r => (combL k r).length).sum ≤ 4000) && (decide ((((List.range (h + 1)).map fun r => (combL k r).map fun ix => ix.map fun j => ((j : Nat) : Int)).flatten).head? = some []) && (List.range 4).all fun r => decide ((combL k r).length ≤ 100))) = true := by decide +kernel
  simp only [List.all_eq_true, List.mem_range, Bool.and_eq_true, decide_eq_true_eq] at z
  obtain ⟨a, b, c⟩ := z h (by omega) k (by omega)
  exact ⟨a, b, c⟩
theorem zip_betw : ∀ {ds : List PyData} {gs : List Int}, ds.length = gs.length → (ds.zip gs).all (fun p => betw p.1 1 p.2) = true → ds = (ds.map iD).map .int
  | [], _, _, _ => rfl
  | d :: r, g :: gs, hl, h => by
    rw [List.zip_cons_cons, List.all_cons, Bool.and_eq_true] at h
    obtain ⟨i, rfl, _⟩ := betw_int h.1
    rw [List.map_cons, List.map_cons, ← zip_betw (by simpa using hl) h.2]
    rfl
theorem isSt_gD {gs : List Int} {d : PyData} (h : isSt gs d = true) : d = gD (dayOf d) ∧ (dayOf d).length = gs.length := by
  cases d with
  | tuple ds =>
    rw [isSt_tup, Bool.and_eq_true] at h
    have hl := of_decide_eq_true h.1
    exact ⟨congrArg PyData.tuple (zip_betw hl h.2), by show (ds.map iD).length = _; rw [List.length_map]; exact hl⟩
  | _ => cases h
theorem daysL_len (h k : Nat) (hh : h ≤ 3) (hk : k ≤ 8) : (daysL h k).length ≤ 4000 := by
  unfold daysL
  rw [(sortL_perm _).length_eq, List.length_flatten, List.map_map]
  refine Nat.le_trans (Nat.le_of_eq ?_) (comb_small h k hh hk).1
  congr 1
  refine List.map_congr_left fun r _ => ?_
  show ((combL k r).map fun ix => ix.map fun j => ((j : Nat) : Int)).length = _
  rw [List.length_map]
theorem ints_inj : ∀ {a b : List Int}, a.map PyData.int = b.map PyData.int → a = b
  | [], [], _ => rfl
  | [], _ :: _, h => by cases h
  | _ :: _, [], h => by cases h
  | x :: a, y :: b, h => by
    simp only [List.map_cons, List.cons.injEq, PyData.int.injEq] at h
    rw [h.1, ints_inj h.2]
/-- the standing behind a day -/
def behL (gs ls ns : List Int) : List Int := (gs.zip ls).zipIdx.map fun p => if ns.contains (p.2 : Int) = true then p.1.1 else p.1.2 - 1
def lotsL (h : Nat) : Nat → List (List Int)
  | 0 => [[]]
  | i + 1 => lotsL h i ++ ((lotsL h i).filter fun r => decide (r.length < h)).map fun r => r ++ [(i : Int)]
theorem lots_small (h k : Nat) (hh : h ≤ 3) (hk : k ≤ 8) : (lotsL h k).length ≤ 300 ∧ (lotsL h k).head? = some [] ∧ sortL (lotsL h k) = daysL h k ∧ ∀ r ∈ lotsL h k, r.length ≤ 3 := by
  have z : (List.range 4).all (fun h => (List.range 9).all fun k => decide ((lotsL h k).length ≤ 300) && (decide ((lotsL h k).head? = some []) && (decide (sortL (lotsL h k) = daysL h k) && (lotsL h k).all fun r => decide (r.length ≤ 3)))) = true := by decide +kernel
  simp only [List.all_eq_true, List.mem_range, Bool.and_eq_true, decide_eq_true_eq] at z
  obtain ⟨a, b, c, d⟩ := z h (by omega) k (by omega)
  exact ⟨a, b, c, d⟩
/-- the digits of a text -/
def digs (s : Str) : List Int := (s.cps.toList.filter fun c => decide (48 ≤ c) && decide (c ≤ 57)).map fun (c : Nat) => (c : Int) - 48
def rgI (k : Nat) : List Int := (List.range k).map fun (i : Nat) => (i : Int)
/-- what _law_any may tell -/
structure AnyT (h k : Nat) (d : PyData) : Prop where
  sm : Sm 4000 3 d
  inj : ∀ r ∈ daysL h k, d.shown = (tD r).shown → d = tD r
  day : isDay (h : Int) k d = true → ∃ r ∈ daysL h k, d = tD r
def smB (d : PyData) : Bool := d.showable && (decide (d.depth ≤ 3) && decide (d.shown.length ≤ 4000))
theorem sm_of {d : PyData} (h : smB d = true) : Sm 4000 3 d := by
  unfold smB at h
  rw [Bool.and_eq_true, Bool.and_eq_true] at h
  exact ⟨h.1, of_decide_eq_true h.2.1, of_decide_eq_true h.2.2⟩
def tdB (h k : Nat) (ns : List Int) : Bool := smB (tD ns) && (decide (digs (tD ns).shown = ns) && (!isDay (h : Int) k (tD ns) || (daysL h k).contains ns))
theorem td_fin {h k : Nat} (hh : h ≤ 3) (hk : k ≤ 8) : (∀ r ∈ daysL h k, tdB h k r = true ∧ isDay (h : Int) k (tD r) = true) ∧ ∀ ns ∈ [[0, 0], [1, 0], [(k : Int)], rgI (k + 1), rgI (min 4 k)], tdB h k ns = true := by
  have z : (List.range 4).all (fun h => (List.range 9).all fun k => ((daysL h k).all fun r => tdB h k r && isDay (h : Int) k (tD r)) && [[0, 0], [1, 0], [(k : Int)], rgI (k + 1), rgI (min 4 k)].all fun ns => tdB h k ns) = true := by decide +kernel
  simp only [List.all_eq_true (l := List.range _), List.mem_range, Bool.and_eq_true] at z
  obtain ⟨a, b⟩ := z h (by omega) k (by omega)
  refine ⟨fun r hr => ?_, fun ns hn => ?_⟩
  · have := List.all_eq_true.mp a r hr
    rwa [Bool.and_eq_true] at this
  · exact List.all_eq_true.mp b ns hn
theorem digs_day {h k : Nat} (hh : h ≤ 3) (hk : k ≤ 8) {r : List Int} (hr : r ∈ daysL h k) : digs (tD r).shown = r := by
  have := ((td_fin hh hk).1 r hr).1
  unfold tdB at this
  rw [Bool.and_eq_true, Bool.and_eq_true] at this
  exact of_decide_eq_true this.2.1
theorem any_td {h k : Nat} (hh : h ≤ 3) (hk : k ≤ 8) {ns : List Int} (hb : tdB h k ns = true) : AnyT h k (tD ns) := by
  unfold tdB at hb
  rw [Bool.and_eq_true, Bool.and_eq_true] at hb
  obtain ⟨h1, h2, h3⟩ := hb
  have e := of_decide_eq_true h2
  refine ⟨sm_of h1, fun r hr q => ?_, fun q => ⟨ns, ?_, rfl⟩⟩
  · have e2 := digs_day hh hk hr
    rw [← q, e] at e2
    rw [e2]
  · rw [q, Bool.not_true, Bool.false_or] at h3
    exact List.contains_iff_mem.mp h3
theorem any_no {h k : Nat} (hh : h ≤ 3) (hk : k ≤ 8) {d : PyData} (h1 : smB d = true) (h2 : decide (d.shown = (tD (digs d.shown)).shown) = false) (h3 : isDay (h : Int) k d = false) : AnyT h k d := by
  refine ⟨sm_of h1, fun r hr q => ?_, fun q => ?_⟩
  · have e2 := digs_day hh hk hr
    rw [← q] at e2
    rw [e2] at h2
    exact absurd q (of_decide_eq_false h2)
  · rw [h3] at q
    cases q
theorem days_len {h k : Nat} (hh : h ≤ 3) (hk : k ≤ 8) : 0 < (daysL h k).length ∧ (daysL h k).length ≤ 300 := by
  have z : (List.range 4).all (fun h => (List.range 9).all fun k => decide (0 < (daysL h k).length) && decide ((daysL h k).length ≤ 300)) = true := by decide +kernel
  simp only [List.all_eq_true, List.mem_range, Bool.and_eq_true, decide_eq_true_eq] at z
  exact z h (by omega) k (by omega)
theorem any_day {h k : Nat} (hh : h ≤ 3) (hk : k ≤ 8) {r : List Int} (hr : r ∈ daysL h k) : AnyT h k (tD r) := any_td hh hk ((td_fin hh hk).1 r hr).1
theorem rgD_tD (k : Nat) : PyData.tuple (rgD 0 k) = tD (rgI k) := by
  unfold rgD tD rgI
  rw [List.map_map]
  refine congrArg PyData.tuple (List.map_congr_left fun i _ => ?_)
  show PyData.int (0 + (i : Int)) = .int (i : Int)
  rw [Int.zero_add]
theorem nd_ints : ∀ ns : List Int, Gd.noDict.go (ns.map .int) = true
  | [] => rfl
  | n :: r => by
    rw [List.map_cons, Gd.noDict.go, nd_ints r]
    rfl
theorem cl_ints : ∀ ns : List Int, PyData.canLayAll0 (ns.map .int) = true
  | [] => rfl
  | n :: r => by
    rw [List.map_cons, PyData.canLayAll0, cl_ints r]
    rfl
theorem dp_ints : ∀ ns : List Int, PyData.depthAll (ns.map .int) = 0
  | [] => rfl
  | n :: r => by
    rw [List.map_cons, PyData.depthAll, dp_ints r]
    rfl
theorem plain_ints (ns : List Int) : Gd.plain (.list (ns.map .int)) = true := by
  have e : PyData.depth (.list (ns.map .int)) = 1 := by
    rw [PyData.depth, dp_ints]
  unfold Gd.plain SeqAt.shaped
  rw [e]
  show (Gd.noDict.go (ns.map .int) && (PyData.canLayAll0 (ns.map .int) && decide (1 ≤ 64))) = true
  rw [nd_ints, cl_ints]
  rfl
theorem eqv_nil (ds : List PyData) : PyData.eqv (.list ds) (.list []) = ds.isEmpty := by cases ds <;> rfl
/-- what is due -/
def dueL (ls : List Int) : List Int := (ls.zipIdx.filter fun p => decide (p.1 = 1)).map fun p => (p.2 : Int)
theorem due_eq {ls : List Int} (h : ∀ l ∈ ls, 1 ≤ l) (ns : List Int) : (((dueL ls).filter fun k => !ns.contains k).map PyData.int).isEmpty = dueOk ls ns := by
  have key : ∀ zs : List (Int × Nat), (∀ p ∈ zs, 1 ≤ p.1) → (((((zs.filter fun p => decide (p.1 = 1)).map fun p => (p.2 : Int))).filter fun k => !ns.contains k).map PyData.int).isEmpty = zs.all fun p => decide (1 < p.1) || ns.contains (p.2 : Int) := by
    intro zs
    induction zs with
    | nil => intro _; rfl
    | cons p r ih =>
      intro hz
      have h1 := hz p List.mem_cons_self
      have ih' := ih fun q hq => hz q (List.mem_cons_of_mem _ hq)
      rw [List.all_cons, ← ih', List.filter_cons]
      by_cases e : p.1 = 1
      · rw [if_pos (by simpa using e), List.map_cons, List.filter_cons]
        have e2 : decide (1 < p.1) = false := decide_eq_false (by omega)
        rw [e2, Bool.false_or]
        cases q : ns.contains (p.2 : Int) with
        | true => simp
        | false => simp
      · rw [if_neg (by simpa using e)]
        have e2 : decide (1 < p.1) = true := decide_eq_true (by omega)
        rw [e2, Bool.true_or, Bool.true_and]
  exact key ls.zipIdx fun p hp => h p.1 (List.fst_mem_of_mem_zipIdx hp)
theorem planD_inj {hi hi' : Int} {gs gs' : List Int} (h : planD hi gs = planD hi' gs') : hi' = hi ∧ gs' = gs := by
  unfold planD at h
  injection h with h
  injection h with h1 h2
  injection h1 with h1
  injection h2 with h2 _
  injection h2 with h2
  refine ⟨h1.symm, ?_⟩
  have inj : ∀ xs ys : List Int, xs.map PyData.int = ys.map PyData.int → ys = xs := by
    intro xs
    induction xs with
    | nil => intro ys e; cases ys with
      | nil => rfl
      | cons _ _ => cases e
    | cons x xs ih => intro ys e; cases ys with
      | nil => cases e
      | cons y ys =>
        injection e with e1 e2
        injection e1 with e1
        rw [ih ys e2, e1]
  exact inj gs gs' h2
theorem iD_int : ∀ ns : List Int, (ns.map PyData.int).map iD = ns
  | [] => rfl
  | n :: r => by
    rw [List.map_cons, List.map_cons, iD_int r]
    rfl
theorem dayOf_gD (ns : List Int) : dayOf (gD ns) = ns := iD_int ns
theorem dayOf_tD (ns : List Int) : dayOf (tD ns) = ns := iD_int ns
/-! ### sizes -/
theorem sm_int3 {i : Int} (h : i.natAbs < 2 ^ 300) : Sm 310 0 (.int i) :=
  have h' := log_lt (by decide) h
  ⟨by show decide (i.natAbs.log2 < 1920) = true; exact decide_eq_true (Nat.lt_trans h' (by decide)), Nat.le_refl _, by
    show (PySem.Str.ofString (toString i)).length ≤ 310
    rw [PySem.ofString_length]
    exact Nat.le_trans (PySem.int_text_length_le (k := 300) (by decide) h') (by decide)⟩
theorem big300 {i : Int} (h0 : -bigGap ≤ i) (h1 : i ≤ bigGap) : i.natAbs < 2 ^ 300 := by
  have hb : bigGap < 2 ^ 100 := by decide +kernel
  have : i.natAbs < 2 ^ 100 := by omega
  exact Nat.lt_trans this (Nat.pow_lt_pow_right (by decide) (by decide))
theorem sm_tD {ns : List Int} (h : ∀ i ∈ ns, i.natAbs < 2 ^ 300) (hl : ns.length ≤ 12) : Sm 4000 1 (tD ns) := by
  have z := sm_tup (n := 310) (k := 0) (ds := ns.map .int) ⟨fun x hx => by
    obtain ⟨g, hg, rfl⟩ := List.mem_map.mp hx
    exact sm_int3 (h g hg)⟩
  refine z.up ?_ (by decide)
  rw [List.length_map]
  omega
theorem sm_list {n k : Nat} {ds : List PyData} (h : ∀ d ∈ ds, Sm n k d) (hl : ds.length * (n + 2) + 3 ≤ 2000000) : Sm 2000000 (k + 1) (.list ds) := (sm_lst (n := n) (k := k) ⟨h⟩).up hl (Nat.le_refl _)
theorem sm_tupl {n k : Nat} {ds : List PyData} (h : ∀ d ∈ ds, Sm n k d) (hl : ds.length * (n + 2) + 3 ≤ 2000000) : Sm 2000000 (k + 1) (.tuple ds) := (sm_tup (n := n) (k := k) ⟨h⟩).up hl (Nat.le_refl _)
theorem sm_plan {hi : Int} {gs : List Int} (G : Good hi gs) : Sm 10000 2 (planD hi gs) := by
  have z := sm_tup (n := 4000) (k := 1) (ds := [.int hi, .tuple (gs.map .int)]) ⟨fun x hx => by
    simp only [List.mem_cons, List.not_mem_nil, or_false] at hx
    rcases hx with rfl | rfl
    · have := G.h1
      have := G.h3
      exact (sm_int3 (Nat.lt_trans (show hi.natAbs < 2 ^ 10 by omega) (Nat.pow_lt_pow_right (by decide) (by decide)))).up (by decide) (by decide)
    · refine sm_tD (fun i hi => ?_) (by have := G.l8; omega)
      have := G.all i hi
      exact big300 (by have : (0 : Int) ≤ bigGap := by decide +kernel
                       omega) this.2⟩
  exact z.up (by show 2 * 4002 + 3 ≤ 10000; decide) (by decide)
/-! ### days compare -/
theorem nd_days : ∀ L : List (List Int), Gd.noDict.go (L.map tD) = true
  | [] => rfl
  | r :: L => by
    rw [List.map_cons, Gd.noDict.go, nd_days L]
    show (Gd.noDict.go (r.map .int) && true) = true
    rw [nd_ints]
    rfl
theorem cl_days : ∀ L : List (List Int), PyData.canLayAll0 (L.map tD) = true
  | [] => rfl
  | r :: L => by
    rw [List.map_cons, PyData.canLayAll0, cl_days L]
    show (PyData.canLayAll0 (r.map .int) && true) = true
    rw [cl_ints]
    rfl
theorem dp_days : ∀ L : List (List Int), PyData.depthAll (L.map tD) ≤ 1
  | [] => Nat.zero_le _
  | r :: L => by
    have e : PyData.depth (tD r) = 1 := by
      unfold tD
      rw [PyData.depth, dp_ints]
    rw [List.map_cons, PyData.depthAll, e]
    have := dp_days L
    omega
theorem plain_days (L : List (List Int)) : Gd.plain (.tuple (L.map tD)) = true := by
  have e : PyData.depth (.tuple (L.map tD)) ≤ 2 := by
    rw [PyData.depth]
    have := dp_days L
    omega
  unfold Gd.plain SeqAt.shaped
  show (Gd.noDict.go (L.map tD) && (PyData.canLayAll0 (L.map tD) && decide (PyData.depth (.tuple (L.map tD)) ≤ 64))) = true
  rw [nd_days, cl_days, decide_eq_true (Nat.le_trans e (by decide))]
  rfl
theorem eqv_nilT (ds : List PyData) : PyData.eqv (.tuple ds) (.tuple []) = ds.isEmpty := by cases ds <;> rfl
theorem bg0 : (0 : Int) ≤ bigGap := by decide +kernel
theorem sm_one {d : PyData} {n k : Nat} (h : Sm n k d) (hn : n ≤ 2000000) (hk : k ≤ 10) : Sm 16000000 30 (.list [d]) := by
  have z := sm_lst (n := n) (k := k) (ds := [d]) ⟨fun x hx => by rw [List.mem_singleton.mp hx]; exact h⟩
  exact z.up (by show 1 * (n + 2) + 3 ≤ 16000000; omega) (by omega)
theorem sm_two {d e : PyData} {n k : Nat} (h : Sm n k d) (h2 : Sm n k e) (hn : n ≤ 2000000) (hk : k ≤ 10) : Sm 16000000 30 (.list [d, e]) := by
  have z := sm_lst (n := n) (k := k) (ds := [d, e]) ⟨fun x hx => by
    simp only [List.mem_cons, List.not_mem_nil, or_false] at hx
    rcases hx with rfl | rfl
    · exact h
    · exact h2⟩
  exact z.up (by show 2 * (n + 2) + 3 ≤ 16000000; omega) (by omega)
theorem sm_twoT {d e : PyData} {n k : Nat} (h : Sm n k d) (h2 : Sm n k e) (hn : n ≤ 2000000) (hk : k ≤ 10) : Sm 16000000 30 (.tuple [d, e]) := by
  have z := sm_tup (n := n) (k := k) (ds := [d, e]) ⟨fun x hx => by
    simp only [List.mem_cons, List.not_mem_nil, or_false] at hx
    rcases hx with rfl | rfl
    · exact h
    · exact h2⟩
  exact z.up (by show 2 * (n + 2) + 3 ≤ 16000000; omega) (by omega)
theorem sm_gD {ls : List Int} (h : ∀ l ∈ ls, 0 ≤ l ∧ l ≤ bigGap) (hl : ls.length ≤ 12) : Sm 4000 1 (gD ls) := sm_tD (fun i hi => big300 (by have a := (h i hi).1; have b := bg0; omega) (h i hi).2) hl
end DC
set_option Elab.async false
set_option linter.all false
set_option maxRecDepth 100000
set_option maxHeartbeats 4000000
namespace K13
open PySem L2 Gd PySem.ExG DC CpComb LamX RZ
set_option exponentiation.threshold 10000
/-! ### the program's defs, as mathematics -/
theorem f_is_whole (d : PyData) : F_is_whole [.d d] = .ret (.d (.bool (wholeD d))) := by cases d <;> rfl
theorem f_is_between (d : PyData) (lo hi : Int) : F_is_between [.d d, .d (.int lo), .d (.int hi)] = .ret (.d (.bool (betw d lo hi))) := by
  unfold F_is_between m_is_between
  cases d with
  | int i => by_cases h : lo ≤ i <;> simp [ρ0, f_is_whole, wholeD, betw, h]
  | _ => simp [ρ0, f_is_whole, wholeD, betw]
theorem f_is_gap (d : PyData) : F_is_gap [.d d] = .ret (.d (.bool (betw d 1 bigGap))) := by
  unfold F_is_gap m_is_gap bigGap
  simp [ρ0, f_is_between]
def needT (d : PyData) : T DVal := match plc d with
  | some p => .exc 0 "place" (plD p)
  | none => .ret (.d d)
theorem need_go (a b c : Option DVal) : ∀ (ds : List PyData) (i : Nat) (o3 o4 : Option DVal), ∃ o3' o4', forGo (g2 (gN 3) (gN 4)) (sIf (tN (tV (vCall F_is_gap (aCons (vVar 4) aNil)))) (sRaise 0 "place" (aCons (vTup (aCons (vC (.int 1)) (aCons (vVar 3) aNil))) aNil)) sNext)
      ((ds.zipIdx i).map fun p => .tuple [.int (p.2 : Nat), p.1]) [a, b, c, o3, o4] = match badGap i ds with
    | some p => .exc 0 "place" (plD p)
    | none => .ret (.nx [a, b, c, o3', o4'])
  | [], i, o3, o4 => ⟨o3, o4, by simp [badGap]⟩
  | d :: ds, i, o3, o4 => by
    obtain ⟨o3', o4', ih⟩ := need_go a b c ds (i + 1) (some (.d (.int i))) (some (.d d))
    refine ⟨o3', o4', ?_⟩
    rw [List.zipIdx_cons, List.map_cons, badGap]
    by_cases h1 : betw d 1 bigGap = true
    · rw [if_pos h1, ← ih]; simp [f_is_gap, h1]
    · rw [if_neg h1]; simp [f_is_gap, h1, plD]
theorem f_need_plan (d : PyData) : F_need_plan [.d d] = needT d := by
  unfold F_need_plan m_need_plan needT
  match d with
  | .tuple [h, g] =>
    rw [plc_two]
    by_cases h1 : betw h 1 3 = true
    · rw [if_pos h1]
      match g with
      | .tuple gs =>
        by_cases h2 : 1 ≤ gs.length ∧ gs.length ≤ 8
        · obtain ⟨o3, o4, e⟩ := need_go (some (.d (.tuple [h, .tuple gs]))) (some (.d h)) (some (.d (.tuple gs))) gs 0 none none
          have e' : enD gs = (gs.zipIdx 0).map fun p => .tuple [.int (p.2 : Nat), p.1] := rfl
          have h3 : (1 : Int) ≤ gs.length ∧ (gs.length : Int) ≤ 8 := by omega
          have e2 : plcG (.tuple gs) = badGap 0 gs := if_pos h2
          have hb : betw (.int gs.length) 1 8 = true := by simp [betw, h3]
          rw [e2]
          cases q : badGap 0 gs with
          | none => rw [q] at e; simp [ρ0, isTupD, f_is_between, h1, hb, e', e, sc]
          | some p => rw [q] at e; simp [ρ0, isTupD, f_is_between, h1, hb, e', e, sc]
        · have e2 : plcG (.tuple gs) = some [1] := if_neg h2
          have h3 : ¬ ((1 : Int) ≤ gs.length ∧ (gs.length : Int) ≤ 8) := by omega
          rw [e2]
          have hb : betw (.int gs.length) 1 8 = false := by
            simp only [betw, Bool.and_eq_false_imp, decide_eq_true_eq, decide_eq_false_iff_not]
            omega
          simp [ρ0, isTupD, f_is_between, h1, hb, sc, plD]
      | .none | .bool _ | .int _ | .str _ | .list _ | .dict _ => simp [ρ0, isTupD, f_is_between, h1, sc, plD, plcG]
    · rw [if_neg h1]
      simp [ρ0, isTupD, f_is_between, h1, sc, plD]
  | .tuple [] | .tuple [_] => simp [ρ0, isTupD, plc, sc, plD]
  | .tuple (a :: b :: c :: r) =>
    have : ((r.length : Int) + 1 + 1 + 1 = 2) = False := by simp; omega
    simp [ρ0, isTupD, plc, sc, plD, this]
  | .none | .bool _ | .int _ | .str _ | .list _ | .dict _ => simp [ρ0, isTupD, plc, plD]
theorem f_need_good {hi : Int} {gs : List Int} (G : Good hi gs) : F_need_plan [.d (planD hi gs)] = .ret (.d (planD hi gs)) := by
  rw [f_need_plan, needT, G.plc]

/-! #### a part: hand, every, from -/
abbrev Tr := Int × Int × Int
def trD (t : Tr) : PyData := .tuple [.int t.1, .int t.2.1, .int t.2.2]
def trOf : PyData → Tr
  | .tuple [.int h, .int e, .int s] => (h, e, s)
  | _ => (0, 1, 0)
def partOk (hi g : Int) : PyData → Bool
  | .tuple [h, e, s] => betw h 0 (hi - 1) && (betw e 1 g && betw s 0 (iD e - 1))
  | _ => false
theorem part_tr {hi g : Int} {d : PyData} (h : partOk hi g d = true) : d = trD (trOf d) ∧ 0 ≤ (trOf d).1 ∧ (trOf d).1 < hi ∧ 1 ≤ (trOf d).2.1 ∧ (trOf d).2.1 ≤ g ∧ 0 ≤ (trOf d).2.2 ∧ (trOf d).2.2 < (trOf d).2.1 := by
  match d, h with
  | .tuple [a, b, c], h =>
    unfold partOk at h
    rw [Bool.and_eq_true, Bool.and_eq_true] at h
    obtain ⟨i, rfl, i0, i1⟩ := betw_int h.1
    obtain ⟨j, rfl, j0, j1⟩ := betw_int h.2.1
    obtain ⟨k, rfl, k0, k1⟩ := betw_int h.2.2
    have k1' : k ≤ j - 1 := k1
    exact ⟨rfl, i0, by show i < hi; omega, j0, j1, k0, by show k < j; omega⟩
theorem f_is_part (hi g : Int) (d : PyData) : F_is_part [.d (.int hi), .d (.int g), .d d] = .ret (.d (.bool (partOk hi g d))) := by
  unfold F_is_part m_is_part
  match d with
  | .tuple [h, e, s] =>
    have g3e : g3 (gN 3) (gN 4) (gN 5) (.tuple [h, e, s]) [some (.d (.int hi)), some (.d (.int g)), some (.d (.tuple [h, e, s])), none, none, none] = some [some (.d (.int hi)), some (.d (.int g)), some (.d (.tuple [h, e, s])), some (.d h), some (.d e), some (.d s)] := rfl
    unfold partOk
    by_cases h1 : betw h 0 (hi - 1) = true
    · by_cases h2 : betw e 1 g = true
      · obtain ⟨j, rfl, _⟩ := betw_int h2
        have e3 : iD (.int j) = j := rfl
        simp [ρ0, isTupD, sc, g3e, f_is_between, h1, h2, e3]
      · simp [ρ0, isTupD, sc, g3e, f_is_between, h1, h2]
    · simp [ρ0, isTupD, sc, g3e, f_is_between, h1]
  | .tuple [] | .tuple [_] | .tuple [_, _] => simp [ρ0, isTupD, partOk, sc]
  | .tuple (a :: b :: c :: e :: r) =>
    have : ((r.length : Int) + 1 + 1 + 1 + 1 = 3) = False := by simp; omega
    simp [ρ0, isTupD, partOk, sc, this]
  | .none | .bool _ | .int _ | .str _ | .list _ | .dict _ => simp [ρ0, isTupD, partOk]
/-- whether two of them meet -/
def meetG (a b : Tr) : Bool := decide (a.1 = b.1) && decide ((a.2.2 - b.2.2) % ((Nat.gcd a.2.1.natAbs b.2.1.natAbs : Nat) : Int) = 0)
theorem f_do_meet (a b : Tr) (h1 : 1 ≤ a.2.1) : F_do_meet [.d (trD a), .d (trD b)] = .ret (.d (.bool (meetG a b))) := by
  unfold F_do_meet m_do_meet
  obtain ⟨h, e, s⟩ := a
  obtain ⟨h', e', s'⟩ := b
  have ga : ∀ o0 o1 o2 o3 o4 o5 o6 o7, g3 (gN 2) (gN 3) (gN 4) (trD (h, e, s)) [o0, o1, o2, o3, o4, o5, o6, o7] = some [o0, o1, some (.d (.int h)), some (.d (.int e)), some (.d (.int s)), o5, o6, o7] := fun _ _ _ _ _ _ _ _ => rfl
  have gb : ∀ o0 o1 o2 o3 o4 o5 o6 o7, g3 (gN 5) (gN 6) (gN 7) (trD (h', e', s')) [o0, o1, o2, o3, o4, o5, o6, o7] = some [o0, o1, o2, o3, o4, some (.d (.int h')), some (.d (.int e')), some (.d (.int s'))] := fun _ _ _ _ _ _ _ _ => rfl
  have h1' : 1 ≤ e := h1
  have gp : 0 < Nat.gcd e.natAbs e'.natAbs := Nat.gcd_pos_of_pos_left _ (by omega)
  unfold meetG
  by_cases q : h = h'
  · subst q
    simp [ρ0, ga, gb, sc, gp]
  · simp [ρ0, ga, gb, sc, q]
/-- no two of a list meet -/
def NoM (ps : List Tr) : Prop := ps.Pairwise fun a b => meetG a b = false
instance (ps : List Tr) : Decidable (NoM ps) := by unfold NoM; infer_instance
def partsB (hi : Int) (gs : List Int) : PyData → Bool
  | .tuple ds => decide (ds.length = gs.length) && (((gs.zip ds).all fun p => partOk hi p.1 p.2) && decide (NoM (ds.map trOf)))
  | _ => false
theorem partsB_tup (hi : Int) (gs : List Int) (ds : List PyData) : partsB hi gs (.tuple ds) = (decide (ds.length = gs.length) && (((gs.zip ds).all fun p => partOk hi p.1 p.2) && decide (NoM (ds.map trOf)))) := rfl
/-- all of them are parts one by one -/
theorem all_part {hi : Int} : ∀ {gs : List Int} {ds : List PyData}, ds.length = gs.length → (gs.zip ds).all (fun p => partOk hi p.1 p.2) = true → ds = (ds.map trOf).map trD ∧ ∀ t ∈ ds.map trOf, 0 ≤ t.1 ∧ t.1 < hi ∧ 1 ≤ t.2.1 ∧ (∃ g ∈ gs, t.2.1 ≤ g) ∧ 0 ≤ t.2.2 ∧ t.2.2 < t.2.1
  | [], [], _, _ => ⟨rfl, fun t h => by cases h⟩
  | g :: gs, d :: ds, hl, h => by
    rw [List.zip_cons_cons, List.all_cons, Bool.and_eq_true] at h
    obtain ⟨e, a0, a1, a2, a3, a4, a5⟩ := part_tr h.1
    obtain ⟨e2, k⟩ := all_part (by simpa using hl) h.2
    refine ⟨by rw [List.map_cons, List.map_cons, ← e, ← e2], fun t ht => ?_⟩
    rw [List.map_cons] at ht
    rcases List.mem_cons.mp ht with rfl | ht
    · exact ⟨a0, a1, a2, ⟨g, List.mem_cons_self, a3⟩, a4, a5⟩
    · obtain ⟨b0, b1, b2, ⟨g', hg, b3⟩, b4, b5⟩ := k t ht
      exact ⟨b0, b1, b2, ⟨g', List.mem_cons_of_mem _ hg, b3⟩, b4, b5⟩
/-- the pairs -/
def prs (n : Nat) : List (List Nat) := (List.range n).flatMap fun i => ((List.range n).filter fun j => decide (i < j)).map fun j => [i, j]
theorem comb2 {n : Nat} (h : n ≤ 8) : combL n 2 = prs n ∧ (combL n 2).length ≤ 28 := by
  have z : (List.range 9).all (fun n => decide (combL n 2 = prs n) && decide ((combL n 2).length ≤ 28)) = true := by decide +kernel
  simp only [List.all_eq_true, List.mem_range, Bool.and_eq_true, decide_eq_true_eq] at z
  exact z n (by omega)
theorem prs_any (n : Nat) (f : Nat → Nat → Bool) : ((prs n).any fun ix => f (ix.getD 0 0) (ix.getD 1 0)) = true ↔ ∃ i j, i < j ∧ j < n ∧ f i j = true := by
  unfold prs
  rw [List.any_eq_true]
  constructor
  · rintro ⟨ix, hm, hf⟩
    obtain ⟨i, hi, hm⟩ := List.mem_flatMap.mp hm
    obtain ⟨j, hj, rfl⟩ := List.mem_map.mp hm
    obtain ⟨hj, hij⟩ := List.mem_filter.mp hj
    exact ⟨i, j, of_decide_eq_true hij, List.mem_range.mp hj, hf⟩
  · rintro ⟨i, j, hij, hj, hf⟩
    exact ⟨[i, j], List.mem_flatMap.mpr ⟨i, List.mem_range.mpr (by omega), List.mem_map.mpr ⟨j, List.mem_filter.mpr ⟨List.mem_range.mpr hj, decide_eq_true hij⟩, rfl⟩⟩, hf⟩
theorem nom_any (ps : List Tr) : ((prs ps.length).any fun ix => meetG (ps.getD (ix.getD 0 0) (0, 1, 0)) (ps.getD (ix.getD 1 0) (0, 1, 0))) = !decide (NoM ps) := by
  rw [Bool.eq_iff_iff, prs_any ps.length fun i j => meetG (ps.getD i (0, 1, 0)) (ps.getD j (0, 1, 0))]
  simp only [Bool.not_eq_true', decide_eq_false_iff_not]
  constructor
  · rintro ⟨i, j, hij, hj, hf⟩ h
    have := List.pairwise_iff_getElem.mp h i j (by omega) hj hij
    rw [List.getD_eq_getElem?_getD, List.getD_eq_getElem?_getD, List.getElem?_eq_getElem (show i < ps.length by omega), List.getElem?_eq_getElem hj] at hf
    rw [show meetG ps[i] ps[j] = true from hf] at this
    cases this
  · intro h
    by_cases q : ∃ i j, i < j ∧ j < ps.length ∧ meetG (ps.getD i (0, 1, 0)) (ps.getD j (0, 1, 0)) = true
    · exact q
    · refine absurd ?_ h
      refine List.pairwise_iff_getElem.mpr fun i j hi hj hij => ?_
      cases e : meetG ps[i] ps[j] with
      | false => rfl
      | true =>
        refine absurd ⟨i, j, hij, hj, ?_⟩ q
        rw [List.getD_eq_getElem?_getD, List.getD_eq_getElem?_getD, List.getElem?_eq_getElem hi, List.getElem?_eq_getElem hj]
        exact e
theorem combD_map {n : Nat} (h : n ≤ 8) : combD n 2 = (prs n).map fun ix => .tuple (ix.map fun j => .int (j : Nat)) := by
  unfold combD
  rw [(comb2 h).1]
theorem vAll_ret {α : Type} {a : VE} {ρ : Dv} (f : α → Bool) (as : List α) (e : a ρ = .ret (.d (.list (as.map fun x => .bool (f x))))) : vAll a ρ = .ret (.d (.bool (as.all f))) := by
  unfold vAll
  rw [e, T.bind_ret, asL_0, asBs_of, List.all_map]
  rfl
theorem vAny_ret {α : Type} {a : VE} {ρ : Dv} (f : α → Bool) (as : List α) (e : a ρ = .ret (.d (.list (as.map fun x => .bool (f x))))) : vAny a ρ = .ret (.d (.bool (as.any f))) := by
  unfold vAny
  rw [e, T.bind_ret, asL_0, asBs_of, List.any_map]
  rfl
theorem vNot_ret {a : VE} {ρ : Dv} {b : Bool} (e : a ρ = .ret (.d (.bool b))) : vNot a ρ = .ret (.d (.bool (!b))) := by
  unfold vNot
  rw [e, T.bind_ret, asB_0]
theorem f_parts_bad (d x : PyData) (p : List Int) (h : plc d = some p) : F_are_parts [.d d, .d x] = .exc 0 "place" (plD p) := by
  unfold F_are_parts m_are_parts
  simp [ρ0, f_need_plan, needT, h]
theorem f_are_parts {hi : Int} {gs : List Int} (G : Good hi gs) (d : PyData) : F_are_parts [.d (planD hi gs), .d d] = .ret (.d (.bool (partsB hi gs d))) := by
  unfold F_are_parts m_are_parts
  have l8 := G.l8
  have u : ∀ o1 o2 o3 o4 o5 o6 o7, g2 (gN 2) (gN 3) (planD hi gs) [some (.d (planD hi gs)), o1, o2, o3, o4, o5, o6, o7] = some [some (.d (planD hi gs)), o1, some (.d (.int hi)), some (.d (gD gs)), o4, o5, o6, o7] := fun _ _ _ _ _ _ _ => rfl
  match d with
  | .tuple ds =>
    rw [partsB_tup]
    have q1 : sUnp (g2 (gN 2) (gN 3)) (vCallS F_need_plan (aCons (vVar 0) aNil)) [some (.d (planD hi gs)), some (.d (.tuple ds)), none, none, none, none, none, none] = .ret (.nx [some (.d (planD hi gs)), some (.d (.tuple ds)), some (.d (.int hi)), some (.d (gD gs)), none, none, none, none]) := by
      unfold sUnp
      rw [vCallS_ret (xs := [.d (planD hi gs)]) rfl (f_need_good G)]
      rfl
    by_cases hl : ds.length = gs.length
    · have tl : tO (tN (tV (vIs isTupD (vVar 1)))) (tV (vNe (vLen (vVar 1)) (vLen (vVar 3)))) [some (.d (planD hi gs)), some (.d (.tuple ds)), some (.d (.int hi)), some (.d (gD gs)), none, none, none, none] = .ret false := by
        simp [isTupD, gD, sc, hl]
      have e1 : vLc (iZipTT (vVar 3) (vVar 1)) (g2 (gN 4) (gN 5)) tY (vCall F_is_part (aCons (vVar 2) (aCons (vVar 4) (aCons (vVar 5) aNil)))) [4, 5] [some (.d (planD hi gs)), some (.d (.tuple ds)), some (.d (.int hi)), some (.d (gD gs)), none, none, none, none] =
          .ret (.d (.list ((gs.zip ds).map fun p => .bool (partOk hi p.1 p.2)))) := by
        rw [vLc_map (fun p : Int × PyData => .tuple [.int p.1, p.2]) (fun p => .bool (partOk hi p.1 p.2)) (gs.zip ds) (by
          simp only [gD, iZipTT_c, vVar_c, List.getElem?_cons_succ, List.getElem?_cons_zero, T.bind_ret, asT_0]
          unfold zipD
          rw [List.zip_map_left, List.map_map]
          rfl) (by rw [List.length_zip]; omega)]
        rintro ⟨g, p⟩ hp
        refine ⟨_, rfl, ?_⟩
        simp [f_is_part]
      by_cases ha : (gs.zip ds).all (fun p => partOk hi p.1 p.2) = true
      · obtain ⟨eds, hps⟩ := all_part hl ha
        have lps : (ds.map trOf).length = ds.length := List.length_map _
        generalize ds.map trOf = ps at eds hps lps
        subst eds
        have e2 : vLc (iComb' (vLen (vVar 1)) (vC (.int 2))) (g2 (gN 6) (gN 7)) tY (vCall F_do_meet (aCons (vIxT (vVar 1) (vVar 6)) (aCons (vIxT (vVar 1) (vVar 7)) aNil))) [6, 7] [some (.d (planD hi gs)), some (.d (.tuple (ps.map trD))), some (.d (.int hi)), some (.d (gD gs)), none, none, none, none] =
            .ret (.d (.list ((prs ps.length).map fun ix => .bool (meetG (ps.getD (ix.getD 0 0) (0, 1, 0)) (ps.getD (ix.getD 1 0) (0, 1, 0)))))) := by
          have p8 : ps.length ≤ 8 := by rw [List.length_map] at hl; omega
          have pi : (0 : Int) ≤ (ps.length : Int) ∧ (ps.length : Int) ≤ 8 := by omega
          rw [vLc_map (fun ix : List Nat => .tuple (ix.map fun j => .int (j : Nat))) (fun ix => .bool (meetG (ps.getD (ix.getD 0 0) (0, 1, 0)) (ps.getD (ix.getD 1 0) (0, 1, 0)))) (prs ps.length) (by
            simp [pi]
            exact combD_map p8) (by have := (comb2 p8).2; rw [(comb2 p8).1] at this; omega)]
          intro ix hix
          obtain ⟨i, hi', hm⟩ := List.mem_flatMap.mp hix
          obtain ⟨j, hj, rfl⟩ := List.mem_map.mp hm
          obtain ⟨hj, hij⟩ := List.mem_filter.mp hj
          have hj := List.mem_range.mp hj
          have hi' := List.mem_range.mp hi'
          refine ⟨_, rfl, ?_⟩
          have a1 : atI (ps.map trD) (i : Nat) = some (trD (ps.getD i (0, 1, 0))) := by
            rw [show atI (ps.map trD) (i : Nat) = some (ps.map trD)[i] from atI_nat (List.getElem?_eq_getElem (by rw [List.length_map]; exact hi'))]
            rw [List.getElem_map, List.getD_eq_getElem?_getD, List.getElem?_eq_getElem hi']
            rfl
          have a2 : atI (ps.map trD) (j : Nat) = some (trD (ps.getD j (0, 1, 0))) := by
            rw [show atI (ps.map trD) (j : Nat) = some (ps.map trD)[j] from atI_nat (List.getElem?_eq_getElem (by rw [List.length_map]; exact hj))]
            rw [List.getElem_map, List.getD_eq_getElem?_getD, List.getElem?_eq_getElem hj]
            rfl
          have q : 1 ≤ (ps.getD i (0, 1, 0)).2.1 := by
            rw [List.getD_eq_getElem?_getD, List.getElem?_eq_getElem hi']
            exact (hps _ (List.getElem_mem hi')).2.2.1
          have fm := f_do_meet (ps.getD i (0, 1, 0)) (ps.getD j (0, 1, 0)) q
          show vCall F_do_meet (aCons (vIxT (vVar 1) (vVar 6)) (aCons (vIxT (vVar 1) (vVar 7)) aNil)) [some (.d (planD hi gs)), some (.d (.tuple (ps.map trD))), some (.d (.int hi)), some (.d (gD gs)), none, none, some (.d (.int (i : Nat))), some (.d (.int (j : Nat)))] = _
          refine vCall_ret (xs := [.d (trD (ps.getD i (0, 1, 0))), .d (trD (ps.getD j (0, 1, 0)))]) ?_ fm
          simp [a1, a2]
        have t3 := tN_ret (tV_ret (vAll_ret _ _ e1))
        rw [ha] at t3
        refine fnT_rt rfl rfl (seq_nx q1 (seq_nx (sIf_f tl rfl) (seq_nx (sIf_f t3 rfl) (sRet_ret ?_))))
        have := vNot_ret (vAny_ret _ _ e2)
        rw [nom_any ps, Bool.not_not] at this
        rw [this, decide_eq_true hl, ha, Bool.true_and, Bool.true_and]
      · have ha' : (gs.zip ds).all (fun p => partOk hi p.1 p.2) = false := by simpa using ha
        have t3 := tN_ret (tV_ret (vAll_ret _ _ e1))
        rw [ha'] at t3
        refine fnT_rt rfl rfl (seq_nx q1 (seq_nx (sIf_f tl rfl) (seq_rt (sIf_t t3 ?_))))
        rw [decide_eq_true hl, ha', Bool.true_and, Bool.false_and]
        rfl
    · have tl : tO (tN (tV (vIs isTupD (vVar 1)))) (tV (vNe (vLen (vVar 1)) (vLen (vVar 3)))) [some (.d (planD hi gs)), some (.d (.tuple ds)), some (.d (.int hi)), some (.d (gD gs)), none, none, none, none] = .ret true := by
        have : ¬ ((ds.length : Int) = (gs.length : Int)) := by omega
        simp [isTupD, gD, sc, this]
      refine fnT_rt rfl rfl (seq_nx q1 (seq_rt (sIf_t tl ?_)))
      rw [decide_eq_false hl, Bool.false_and]
      rfl
  | .none | .bool _ | .int _ | .str _ | .list _ | .dict _ => simp [ρ0, f_need_good G, u, isTupD, partsB]
end K13
set_option Elab.async false
set_option linter.all false
set_option maxRecDepth 100000
set_option maxHeartbeats 4000000
set_option autoImplicit false
namespace DC
/-! ### two distances: when they meet -/
theorem bez (a b : Nat) : ∃ u v : Int, (a : Int) * u + (b : Int) * v = (Nat.gcd a b : Nat) := by
  induction a, b using Nat.gcd.induction with
  | H0 n => exact ⟨0, 1, by simp⟩
  | H1 m n hm ih =>
    obtain ⟨u, v, e⟩ := ih
    refine ⟨v - ((n / m : Nat) : Int) * u, u, ?_⟩
    rw [Nat.gcd_rec m n, ← e]
    have h : (n : Int) = (m : Int) * ((n / m : Nat) : Int) + ((n % m : Nat) : Int) := by
      have := Nat.div_add_mod n m
      exact_mod_cast this.symm
    rw [Int.mul_sub, h]
    have : (((m : Int) * ((n / m : Nat) : Int) + ((n % m : Nat) : Int)) % m) = ((n % m : Nat) : Int) % m := by
      rw [Int.mul_add_emod_self_left]
    rw [Int.add_mul]
    have e2 : (m : Int) * (((n / m : Nat) : Int) * u) = (m : Int) * ((n / m : Nat) : Int) * u := (Int.mul_assoc _ _ _).symm
    rw [e2]
    omega
theorem crt {a b s t : Int} (ha : 0 < a) (hb : 0 < b) (hs : 0 ≤ s) (hs2 : s < a) (ht : 0 ≤ t) (ht2 : t < b) : (∃ k : Nat, k < (a * b).toNat ∧ (k : Int) % a = s ∧ (k : Int) % b = t) ↔ (s - t) % ((Nat.gcd a.natAbs b.natAbs : Nat) : Int) = 0 := by
  have ga : ((Nat.gcd a.natAbs b.natAbs : Nat) : Int) ∣ a := Int.ofNat_dvd_left.mpr (Nat.gcd_dvd_left _ _)
  have gb : ((Nat.gcd a.natAbs b.natAbs : Nat) : Int) ∣ b := Int.ofNat_dvd_left.mpr (Nat.gcd_dvd_right _ _)
  obtain ⟨u, v, e⟩ := bez a.natAbs b.natAbs
  have ea : (a.natAbs : Int) = a := by omega
  have eb : (b.natAbs : Int) = b := by omega
  rw [ea, eb] at e
  generalize ((Nat.gcd a.natAbs b.natAbs : Nat) : Int) = g at ga gb e
  have hab : 0 < a * b := Int.mul_pos ha hb
  constructor
  · rintro ⟨k, _, h1, h2⟩
    refine Int.emod_eq_zero_of_dvd ?_
    have e1 : s - t = b * ((k : Int) / b) - a * ((k : Int) / a) := by
      have q1 := Int.mul_ediv_add_emod (k : Int) a
      have q2 := Int.mul_ediv_add_emod (k : Int) b
      omega
    rw [e1]
    exact Int.dvd_sub (Int.dvd_trans gb (Int.dvd_mul_right _ _)) (Int.dvd_trans ga (Int.dvd_mul_right _ _))
  · intro h
    obtain ⟨d, hd⟩ := Int.dvd_of_emod_eq_zero h
    have z0 := Int.emod_nonneg (s - a * (u * d)) (show a * b ≠ 0 by omega)
    have z1 := Int.emod_lt_of_pos (s - a * (u * d)) hab
    refine ⟨((s - a * (u * d)) % (a * b)).toNat, by omega, ?_, ?_⟩
    · rw [Int.toNat_of_nonneg z0, Int.emod_emod_of_dvd _ (Int.dvd_mul_right a b), Int.sub_mul_emod_self_left]
      exact Int.emod_eq_of_lt hs hs2
    · rw [Int.toNat_of_nonneg z0, Int.emod_emod_of_dvd _ (Int.dvd_mul_left a b)]
      have e2 : s - a * (u * d) = t + b * (v * d) := by
        have e3 : (a * u + b * v) * d = g * d := by rw [e]
        rw [Int.add_mul, Int.mul_assoc, Int.mul_assoc] at e3
        omega
      rw [e2, Int.add_mul_emod_self_left]
      exact Int.emod_eq_of_lt ht ht2
theorem emod_neg_zero {x g : Int} : x % g = 0 ↔ (-x) % g = 0 := by
  constructor
  · intro h
    exact Int.emod_eq_zero_of_dvd (Int.dvd_neg.mpr (Int.dvd_of_emod_eq_zero h))
  · intro h
    exact Int.emod_eq_zero_of_dvd (Int.dvd_neg.mp (Int.dvd_of_emod_eq_zero h))
end DC
set_option Elab.async false
set_option linter.all false
set_option maxRecDepth 100000
set_option maxHeartbeats 4000000
namespace K13
open PySem L2 Gd PySem.ExG DC CpComb LamX RZ
set_option exponentiation.threshold 10000
/-! ### the law's own judge -/
theorem whF {n : Nat} (h : n < 2 ^ 300) : n < whFuel := by
  unfold whFuel
  exact Nat.lt_trans h (Nat.pow_lt_pow_right (by decide) (by decide))
def comC : VT := (tV (vCmp (fun i j => decide (j < i)) (vVar 1) (vC (.int 0))))
def comB : VS := (sPar 0 1 (aCons (vVar 1) (aCons (vIntC (fun _ j => 0 < j) (fun i j => i % j) (vIntI (vVar 0)) (vIntI (vVar 1))) aNil)))
theorem com_go : ∀ (k m n : Nat), n < k → whGo comC comB k [some (.d (.int (m : Nat))), some (.d (.int (n : Nat)))] = .ret (.nx [some (.d (.int (Nat.gcd m n : Nat))), some (.d (.int 0))])
  | 0, _, _, h => absurd h (by omega)
  | k + 1, m, n, h => by
    rw [whGo_succ]
    by_cases hn : 0 < n
    · have hc : comC [some (.d (.int (m : Nat))), some (.d (.int (n : Nat)))] = .ret true := by
        unfold comC
        simp [hn]
      have hb : comB [some (.d (.int (m : Nat))), some (.d (.int (n : Nat)))] = .ret (.nx [some (.d (.int (n : Nat))), some (.d (.int ((m % n : Nat) : Nat)))]) := by
        unfold comB
        have hn0 : n ≠ 0 := by omega
        simp [hn, hn0]
      have hl := Nat.mod_lt m hn
      rw [hc, T.bind_ret, if_pos rfl, hb, T.bind_ret]
      dsimp only
      rw [com_go k n (m % n) (by omega), Nat.gcd_comm m n, Nat.gcd_rec n m, Nat.gcd_comm (m % n) n]
    · have : n = 0 := by omega
      subst this
      have hc : comC [some (.d (.int (m : Nat))), some (.d (.int ((0 : Nat) : Int)))] = .ret false := by
        unfold comC
        simp
      rw [hc, T.bind_ret, if_neg (by decide), Nat.gcd_zero_right]
      rfl
theorem f_law_common (m n : Nat) (h : n < 2 ^ 300) : F_law_common [.d (.int (m : Nat)), .d (.int (n : Nat))] = .ret (.d (.int (Nat.gcd m n : Nat))) := by
  refine fnT_rt rfl rfl ?_
  have e : sWhile comC comB [some (.d (.int (m : Nat))), some (.d (.int (n : Nat)))] = .ret (.nx [some (.d (.int (Nat.gcd m n : Nat))), some (.d (.int 0))]) := com_go whFuel m n (whF h)
  exact seq_nx e rfl
/-- as they must be -/
structure TrOk (t : Tr) : Prop where
  e1 : 1 ≤ t.2.1
  eb : t.2.1 ≤ bigGap
  s0 : 0 ≤ t.2.2
  s1 : t.2.2 < t.2.1
theorem tr_ix0 (t : Tr) : atI [PyData.int t.1, PyData.int t.2.1, PyData.int t.2.2] 0 = some (.int t.1) := rfl
theorem tr_ix1 (t : Tr) : atI [PyData.int t.1, PyData.int t.2.1, PyData.int t.2.2] 1 = some (.int t.2.1) := rfl
theorem tr_ix2 (t : Tr) : atI [PyData.int t.1, PyData.int t.2.1, PyData.int t.2.2] 2 = some (.int t.2.2) := rfl
theorem mulW {i j : Int} (hi : 1 ≤ i) (hib : i ≤ bigGap) (hj : 1 ≤ j) (hjb : j ≤ bigGap) : CMulW i j := by
  have b0 := bg0
  have h1 := log_lt (k := 300) (by decide) (big300 (i := i) (by omega) hib)
  have h2 := log_lt (k := 300) (by decide) (big300 (i := j) (by omega) hjb)
  unfold CMulW
  omega
theorem f_law_meet {a b : Tr} (A : TrOk a) (B : TrOk b) : F_law_meet [.d (trD a), .d (trD b)] = .ret (.d (.bool (meetG a b))) := by
  have mw := mulW A.e1 A.eb B.e1 B.eb
  have hc := crt (a := a.2.1) (b := b.2.1) (s := a.2.2) (t := b.2.2) (by have := A.e1; omega) (by have := B.e1; omega) A.s0 A.s1 B.s0 B.s1
  refine fnT_rt rfl rfl ?_
  show m_law_meet [some (.d (trD a)), some (.d (trD b)), none, none] = _
  unfold m_law_meet
  have a1 := A.e1
  have b1 := B.e1
  have a1p : 0 < a.2.1 := by omega
  have b1p : 0 < b.2.1 := by omega
  have A0 : ∀ o2 o3, vIxT (vVar 0) (vC (.int 0)) [some (.d (trD a)), some (.d (trD b)), o2, o3] = .ret (.d (.int a.1)) := fun _ _ => rfl
  have A1 : ∀ o2 o3, vIxT (vVar 0) (vC (.int 1)) [some (.d (trD a)), some (.d (trD b)), o2, o3] = .ret (.d (.int a.2.1)) := fun _ _ => rfl
  have A2 : ∀ o2 o3, vIxT (vVar 0) (vC (.int 2)) [some (.d (trD a)), some (.d (trD b)), o2, o3] = .ret (.d (.int a.2.2)) := fun _ _ => rfl
  have B0 : ∀ o2 o3, vIxT (vVar 1) (vC (.int 0)) [some (.d (trD a)), some (.d (trD b)), o2, o3] = .ret (.d (.int b.1)) := fun _ _ => rfl
  have B1 : ∀ o2 o3, vIxT (vVar 1) (vC (.int 1)) [some (.d (trD a)), some (.d (trD b)), o2, o3] = .ret (.d (.int b.2.1)) := fun _ _ => rfl
  have B2 : ∀ o2 o3, vIxT (vVar 1) (vC (.int 2)) [some (.d (trD a)), some (.d (trD b)), o2, o3] = .ret (.d (.int b.2.2)) := fun _ _ => rfl
  by_cases q : a.1 = b.1
  · have t1 : tV (vNe (vIxT (vVar 0) (vC (.int 0))) (vIxT (vVar 1) (vC (.int 0)))) [some (.d (trD a)), some (.d (trD b)), none, none] = .ret false := by
      simp [-vIxT_c, A0, B0, sc, q]
    refine seq_nx (sIf_f t1 rfl) ?_
    by_cases h4 : a.2.1 * b.2.1 ≤ 400
    · have t2 : tV (vCmp (fun i j => decide (i ≤ j)) (vIntC CMulW (fun i j => i * j) (vIxT (vVar 0) (vC (.int 1))) (vIxT (vVar 1) (vC (.int 1)))) (vC (.int 400))) [some (.d (trD a)), some (.d (trD b)), none, none] = .ret true := by
        simp [-vIxT_c, A1, B1, mw, h4]
      have n4 : (a.2.1 * b.2.1).toNat ≤ 400 := by omega
      have en : ((a.2.1 * b.2.1).toNat : Int) = a.2.1 * b.2.1 := Int.toNat_of_nonneg (Int.le_of_lt (Int.mul_pos a1p b1p))
      have e1 : vLc (iR1 (vIntC CMulW (fun i j => i * j) (vIxT (vVar 0) (vC (.int 1))) (vIxT (vVar 1) (vC (.int 1))))) (gN 3) (tA (tV (vEq (vIntC (fun _ j => 0 < j) (fun i j => i % j) (vIntI (vVar 3)) (vIxT (vVar 0) (vC (.int 1)))) (vIxT (vVar 0) (vC (.int 2))))) (tV (vEq (vIntC (fun _ j => 0 < j) (fun i j => i % j) (vIntI (vVar 3)) (vIxT (vVar 1) (vC (.int 1)))) (vIxT (vVar 1) (vC (.int 2)))))) (vVar 3) [3] [some (.d (trD a)), some (.d (trD b)), none, none] =
          .ret (.d (.list (((List.range (a.2.1 * b.2.1).toNat).filter fun (k : Nat) => decide ((k : Int) % a.2.1 = a.2.2) && decide ((k : Int) % b.2.1 = b.2.2)).map fun (k : Nat) => PyData.int (0 + ((k : Nat) : Int))))) := by
        rw [vLc_pure (fun k : Nat => PyData.int (0 + ((k : Nat) : Int))) (fun (k : Nat) => decide ((k : Int) % a.2.1 = a.2.2) && decide ((k : Int) % b.2.1 = b.2.2)) (fun (k : Nat) => PyData.int (0 + ((k : Nat) : Int))) (List.range (a.2.1 * b.2.1).toNat) ?_ (by rw [List.length_range]; omega)]
        · intro k hk
          refine ⟨_, rfl, ?_, fun _ => rfl⟩
          by_cases k1 : (k : Int) % a.2.1 = a.2.2 <;> simp [-vIxT_c, A1, A2, B1, B2, sc, a1p, b1p, k1]
        · refine iR1_nat _ _ _ _ (by omega) ?_
          simp [-vIxT_c, A1, B1, mw, en]
      have pl := plain_ints (((List.range (a.2.1 * b.2.1).toNat).filter fun (k : Nat) => decide ((k : Int) % a.2.1 = a.2.2) && decide ((k : Int) % b.2.1 = b.2.2)).map fun (k : Nat) => (0 + ((k : Nat) : Int)))
      rw [List.map_map] at pl
      refine seq_rt (sIf_t t2 (seq_nx (sAsg_ret e1) (sRet_ret ?_)))
      rw [vNeD_ret (d := .list (((List.range (a.2.1 * b.2.1).toNat).filter fun (k : Nat) => decide ((k : Int) % a.2.1 = a.2.2) && decide ((k : Int) % b.2.1 = b.2.2)).map fun (k : Nat) => PyData.int (0 + ((k : Nat) : Int)))) (e := .list []) rfl rfl pl (plain_ints []), eqv_nil, List.isEmpty_map]
      unfold meetG
      rw [decide_eq_true q, Bool.true_and]
      congr 3
      rw [Bool.eq_iff_iff, decide_eq_true_eq, ← hc]
      cases hL : ((List.range (a.2.1 * b.2.1).toNat).filter fun (k : Nat) => decide ((k : Int) % a.2.1 = a.2.2) && decide ((k : Int) % b.2.1 = b.2.2)) with
      | nil =>
        constructor
        · intro z; cases z
        · rintro ⟨k, k0, k1, k2⟩
          have hm : k ∈ ((List.range (a.2.1 * b.2.1).toNat).filter fun (k : Nat) => decide ((k : Int) % a.2.1 = a.2.2) && decide ((k : Int) % b.2.1 = b.2.2)) :=
            List.mem_filter.mpr ⟨List.mem_range.mpr k0, by rw [decide_eq_true k1, decide_eq_true k2]; rfl⟩
          rw [hL] at hm
          cases hm
      | cons k r =>
        have hm : k ∈ ((List.range (a.2.1 * b.2.1).toNat).filter fun (k : Nat) => decide ((k : Int) % a.2.1 = a.2.2) && decide ((k : Int) % b.2.1 = b.2.2)) := by rw [hL]; exact List.mem_cons_self
        obtain ⟨k0, k1⟩ := List.mem_filter.mp hm
        rw [Bool.and_eq_true] at k1
        exact ⟨fun _ => ⟨k, List.mem_range.mp k0, of_decide_eq_true k1.1, of_decide_eq_true k1.2⟩, fun _ => rfl⟩
    · have t2 : tV (vCmp (fun i j => decide (i ≤ j)) (vIntC CMulW (fun i j => i * j) (vIxT (vVar 0) (vC (.int 1))) (vIxT (vVar 1) (vC (.int 1)))) (vC (.int 400))) [some (.d (trD a)), some (.d (trD b)), none, none] = .ret false := by
        simp [-vIxT_c, A1, B1, mw, h4]
      have ea : ((a.2.1.natAbs : Nat) : Int) = a.2.1 := by omega
      have eb : ((b.2.1.natAbs : Nat) : Int) = b.2.1 := by omega
      have fc := f_law_common a.2.1.natAbs b.2.1.natAbs (big300 (by have := bg0; omega) B.eb)
      rw [ea, eb] at fc
      have gp : 0 < Nat.gcd a.2.1.natAbs b.2.1.natAbs := Nat.gcd_pos_of_pos_left _ (by omega)
      have e2 : vCall F_law_common (aCons (vIxT (vVar 0) (vC (.int 1))) (aCons (vIxT (vVar 1) (vC (.int 1))) aNil)) [some (.d (trD a)), some (.d (trD b)), none, none] = .ret (.d (.int (Nat.gcd a.2.1.natAbs b.2.1.natAbs : Nat))) := by
        refine vCall_ret (xs := [.d (.int a.2.1), .d (.int b.2.1)]) ?_ fc
        simp [-vIxT_c, A1, B1]
      refine seq_nx (sIf_f t2 rfl) (sRet_ret ?_)
      unfold meetG
      rw [decide_eq_true q, Bool.true_and]
      have e3 : vIntI (vInt (fun i j => i - j) (vIxT (vVar 0) (vC (.int 2))) (vIxT (vVar 1) (vC (.int 2)))) [some (.d (trD a)), some (.d (trD b)), none, none] = .ret (.d (.int (a.2.2 - b.2.2))) := by
        simp [-vIxT_c, A2, B2]
      unfold vEq vIntC
      rw [e3, T.bind_ret, asI_0, e2, T.bind_ret, asI_0]
      have gp' : (0 : Int) < ((Nat.gcd a.2.1.natAbs b.2.1.natAbs : Nat) : Int) := by omega
      rw [decide_eq_true gp', need_t, T.bind_ret]
      rfl
  · have t1 : tV (vNe (vIxT (vVar 0) (vC (.int 0))) (vIxT (vVar 1) (vC (.int 0)))) [some (.d (trD a)), some (.d (trD b)), none, none] = .ret true := by
      simp [-vIxT_c, A0, B0, sc, q]
    refine seq_rt (sIf_t t1 ?_)
    unfold meetG
    rw [decide_eq_false q, Bool.false_and]
    rfl
end K13
set_option Elab.async false
set_option linter.all false
set_option maxRecDepth 100000
set_option maxHeartbeats 4000000
namespace K13
open PySem L2 Gd PySem.ExG DC CpComb LamX RZ
set_option exponentiation.threshold 10000
theorem ix0 (a b : PyData) : atI [a, b] 0 = some a := rfl
theorem ix1 (a b : PyData) : atI [a, b] 1 = some b := rfl
theorem cut_drop (ds : List PyData) (k : Nat) : cutD ds (some (k : Int)) none = ds.drop k := by
  unfold cutD
  rw [HT.sIx_nat, HT.sIx_none]
  by_cases h : k ≤ ds.length
  · rw [Nat.min_eq_left h, List.take_of_length_le (by rw [List.length_drop]; omega)]
  · rw [Nat.min_eq_right (by omega), List.drop_of_length_le (Nat.le_refl _), List.drop_of_length_le (by omega), List.take_nil]
theorem rgD_succ (lo : Int) (k : Nat) : rgD lo (k + 1) = .int lo :: rgD (lo + 1) k := by
  unfold rgD
  rw [List.range_succ_eq_map, List.map_cons, List.map_map]
  congr 1
  · simp
  · refine List.map_congr_left fun i _ => ?_
    show PyData.int (lo + ((i + 1 : Nat) : Int)) = .int (lo + 1 + (i : Nat))
    congr 1
    omega
theorem plain_daysL (L : List (List Int)) : Gd.plain (.list (L.map tD)) = true := by
  have e : PyData.depth (.list (L.map tD)) ≤ 2 := by
    rw [PyData.depth]
    have := dp_days L
    omega
  unfold Gd.plain SeqAt.shaped
  show (Gd.noDict.go (L.map tD) && (PyData.canLayAll0 (L.map tD) && decide (PyData.depth (.list (L.map tD)) ≤ 64))) = true
  rw [nd_days, cl_days, decide_eq_true (Nat.le_trans e (by decide))]
  rfl
theorem tr_tD (ps : List Tr) : ps.map trD = (ps.map fun t => [t.1, t.2.1, t.2.2]).map tD := by
  rw [List.map_map]
  rfl
theorem plain_trs (ps : List Tr) : Gd.plain (.list (ps.map trD)) = true := by
  rw [tr_tD]
  exact plain_daysL _
end K13
set_option Elab.async false
set_option linter.all false
set_option maxRecDepth 100000
set_option maxHeartbeats 4000000
namespace K13
open PySem L2 Gd PySem.ExG DC CpComb LamX RZ
set_option exponentiation.threshold 10000
/-! ### what is drawn -/
theorem f_law_of (m : V) (ds : List PyData) : F_law_of [.h m, .d (.list ds)] = .draw m ds.length fun r => ofT ds r := by
  have e : ∀ r, ofT ds r = match atI ds r with
    | some d => .ret (.d d)
    | none => .stuck := fun _ => rfl
  unfold F_law_of m_law_of
  simp [ρ0, F_law_draw, e]
  funext r
  cases atI ds r <;> rfl
theorem wp_of {M : V → Prop} {n : Nat} {P : Nat → DVal → Prop} {X : XN} {m : V} {ds : List PyData} (hm : M m) (hn : n ≤ 100000) (h0 : 0 < ds.length) (hl : ds.length ≤ 5000) (h : ∀ d ∈ ds, P (n + 1) (.d d)) : (F_law_of [.h m, .d (.list ds)]).Wp M n P X := by
  rw [f_law_of]
  refine T.Wp_draw ⟨hm, hn, by omega, lt8000 ?_, fun r r0 r1 => ?_⟩
  · rw [Int.natAbs_natCast]
    exact Nat.lt_of_le_of_lt hl (by decide)
  · obtain ⟨d, hd, e⟩ := of_ok r0 r1
    show T.Wp M (ofT ds r) (n + 1) P X
    rw [e, T.Wp_ret]
    exact h d hd
theorem wp_draw {M : V → Prop} {n : Nat} {P : Nat → DVal → Prop} {X : XN} {m : V} {many : Int} (hm : M m) (hn : n ≤ 100000) (h0 : 0 < many) (hl : many.natAbs < 2 ^ 300) (h : ∀ r, 0 ≤ r → r < many → P (n + 1) (.d (.int r))) : (F_law_draw [.h m, .d (.int many)]).Wp M n P X :=
  T.Wp_draw (k := fun r => T.ret (DVal.d (PyData.int r))) ⟨hm, hn, h0, lt8000 hl, fun r a b => T.Wp_r (h r a b)⟩
theorem rg_get {lo : Int} {k i : Nat} {x : PyData} (h : (rgD lo k)[i]? = some x) : i < k ∧ x = .int (lo + (i : Nat)) := by
  unfold rgD at h
  rw [List.getElem?_map] at h
  cases e : (List.range k)[i]? with
  | none => rw [e] at h; cases h
  | some j =>
    rw [e] at h
    obtain ⟨hl, e2⟩ := List.getElem?_eq_some_iff.mp e
    rw [List.length_range] at hl
    rw [List.getElem_range] at e2
    subst e2
    exact ⟨hl, (Option.some.inj h).symm⟩
theorem rgD_len (lo : Int) (k : Nat) : (rgD lo k).length = k := by simp [rgD]
section
variable {M : V → Prop} {X : XN} {n : Nat}
theorem wp_intC {P : Nat → DVal → Prop} {c : Int → Int → Prop} [∀ i j, Decidable (c i j)] {g : Int → Int → Int} {a b : VE} {ρ : Dv} (h : (a ρ).Wp M n (fun n x => ∃ i, x = .d (.int i) ∧ (b ρ).Wp M n (fun n y => ∃ j, y = .d (.int j) ∧ c i j ∧ P n (.d (.int (g i j)))) X) X) : (vIntC c g a b ρ).Wp M n P X := by
  refine T.Wp_bind.mpr (h.mono fun n' x q => ?_)
  obtain ⟨i, e, q⟩ := q
  subst e
  refine T.Wp_bind.mpr (q.mono fun n2 y p => ?_)
  obtain ⟨j, e, hc, p⟩ := p
  subst e
  rw [asI_0, decide_eq_true hc, need_t]
  exact T.Wp_r p
theorem wp_parO {P : Nat → Out → Prop} {i j : Nat} {a : VE} {f : VA} {ρ : Dv} (h : (a ρ).Wp M n (fun n x => ∃ d, x = .d d ∧ (f ρ).Wp M n (fun n xs => ∃ ds, unD xs = some ds ∧ ds.length ≤ 5000 ∧ P n (.nx ((ρ.set i (some (.d d))).set j (some (.o (.l ds)))))) X) X) : (sParO i j a f ρ).Wp M n P X := by
  refine T.Wp_bind.mpr (h.mono fun n' x q => ?_)
  obtain ⟨d, e, q⟩ := q
  subst e
  refine T.Wp_bind.mpr (q.mono fun n2 xs p => ?_)
  obtain ⟨ds, e, hl, p⟩ := p
  rw [e]
  dsimp only
  rw [decide_eq_true hl, need_t]
  exact T.Wp_r p
theorem wp_lcO {P : Nat → DVal → Prop} {i0 : Nat} {tg : VG} {c : VT} {f : VE} {vs : List Nat} {ρ : Dv} {xs : List PyData} (h0 : ρ[i0]? = some (some (.o (.l xs)))) (hl : xs.length ≤ 5000)
    (h : (lcGo tg vs c f ρ xs).Wp M n (fun n ds => P n (.d (.list ds))) fun _ _ _ _ => False) : (vLcO i0 tg c f vs ρ).Wp M n P X := by
  unfold vLcO
  rw [h0]
  dsimp only
  rw [decide_eq_true hl, need_t]
  exact T.Wp_bind.mpr (Wp_noxI (h.mono fun _ _ q => T.Wp_r q))
end
theorem vLcO_pure {α : Type} {i0 : Nat} {tg : VG} {vs : List Nat} {tt : VT} {te : VE} {ρ : Dv} (emb : α → PyData) (c : α → Bool) (f : α → PyData) (as : List α) (h0 : ρ[i0]? = some (some (.o (.l (as.map emb))))) (hl : as.length ≤ 5000)
    (h : ∀ a ∈ as, ∃ ρ', tg (emb a) (wipeD ρ vs) = some ρ' ∧ tt ρ' = .ret (c a) ∧ (c a = true → te ρ' = .ret (.d (f a)))) : vLcO i0 tg tt te vs ρ = .ret (.d (.list ((as.filter c).map f))) := by
  unfold vLcO
  rw [h0]
  dsimp only
  rw [List.length_map, decide_eq_true hl, lcGo_pure emb c f as h]
  rfl
theorem big60 : (2 : Int) ^ 64 ≤ bigGap := by decide +kernel
/-- parts as they are made -/
structure Mk (hi : Int) (ps : List Tr) : Prop where
  l8 : ps.length ≤ 8
  all : ∀ t ∈ ps, 0 ≤ t.1 ∧ t.1 < hi ∧ 1 ≤ t.2.1 ∧ t.2.1 ≤ 2 ^ 64 ∧ 0 ≤ t.2.2 ∧ t.2.2 < t.2.1
  nom : NoM ps
theorem Mk.ok {hi : Int} {ps : List Tr} (K : Mk hi ps) : ∀ t ∈ ps, TrOk t := fun t ht => by
  obtain ⟨a, b, c, d, e, f⟩ := K.all t ht
  have := big60
  exact ⟨c, by omega, e, f⟩
theorem meet_sym (a b : Tr) : meetG a b = meetG b a := by
  unfold meetG
  rw [Nat.gcd_comm b.2.1.natAbs]
  have e1 : decide (a.1 = b.1) = decide (b.1 = a.1) := by rw [Bool.eq_iff_iff, decide_eq_true_eq, decide_eq_true_eq]; exact eq_comm
  have e2 : decide ((a.2.2 - b.2.2) % ((Nat.gcd a.2.1.natAbs b.2.1.natAbs : Nat) : Int) = 0) = decide ((b.2.2 - a.2.2) % ((Nat.gcd a.2.1.natAbs b.2.1.natAbs : Nat) : Int) = 0) := by
    rw [Bool.eq_iff_iff, decide_eq_true_eq, decide_eq_true_eq, emod_neg_zero, Int.neg_sub]
  rw [e1, e2]
theorem Mk.snoc {hi : Int} {ps : List Tr} (K : Mk hi ps) {t : Tr} (ht : 0 ≤ t.1 ∧ t.1 < hi ∧ 1 ≤ t.2.1 ∧ t.2.1 ≤ 2 ^ 64 ∧ 0 ≤ t.2.2 ∧ t.2.2 < t.2.1) (h8 : ps.length < 8) (he : (ps.filter (meetG t)).isEmpty = true) : Mk hi (ps ++ [t]) := by
  refine ⟨by rw [List.length_append]; exact h8, fun s hs => ?_, ?_⟩
  · rcases List.mem_append.mp hs with h | h
    · exact K.all s h
    · rw [List.mem_singleton.mp h]; exact ht
  · refine List.pairwise_append.mpr ⟨K.nom, List.pairwise_singleton _ _, fun a ha b hb => ?_⟩
    rw [List.mem_singleton.mp hb]
    cases q : meetG a t with
    | false => rfl
    | true =>
      rw [meet_sym] at q
      have hm : a ∈ ps.filter (meetG t) := List.mem_filter.mpr ⟨ha, q⟩
      rw [List.isEmpty_iff.mp he] at hm
      cases hm
def madeB : VS := (sSeq (sAsg 4 (vCall F_law_of (aCons (vVar 0) (aCons (vLst (aCons (vInt (fun i j => i + j) (vC (.int 1)) (vCall F_law_draw (aCons (vVar 0) (aCons (vC (.int 12)) aNil)))) (aCons (vCall F_law_of (aCons (vVar 0) (aCons (vLst (aCons (vC (.int 2)) (aCons (vC (.int 4)) (aCons (vC (.int 8)) (aCons (vC (.int 16)) (aCons (vC (.int 32)) aNil)))))) aNil))) (aCons (vIntC CMulW (fun i j => i * j) (vIntC CPow (fun i j => i ^ j.toNat) (vC (.int 2)) (vC (.int 60))) (vInt (fun i j => i + j) (vC (.int 1)) (vCall F_law_draw (aCons (vVar 0) (aCons (vC (.int 9)) aNil))))) aNil)))) aNil))))
  (sSeq (sAsg 5 (vTup (aCons (vCall F_law_draw (aCons (vVar 0) (aCons (vVar 1) aNil))) (aCons (vVar 4) (aCons (vCall F_law_of (aCons (vVar 0) (aCons (vLst (aCons (vCall F_law_draw (aCons (vVar 0) (aCons (vVar 4) aNil))) (aCons (vInt (fun i j => i - j) (vVar 4) (vC (.int 1))) aNil))) aNil))) aNil)))))
  (sIf (tA (tV (vCmp (fun i j => decide (i < j)) (vLen (vVar 2)) (vC (.int 8)))) (tV (vEqD (vLcO 2 (gN 6) (tV (vCall F_law_meet (aCons (vVar 5) (aCons (vVar 6) aNil)))) (vVar 6) [6]) (vLst aNil)))) (sApp 2 (vVar 5)) sNext)))
theorem pow60 (ρ : Dv) : vIntC CPow (fun i j => i ^ j.toNat) (vC (.int 2)) (vC (.int 60)) ρ = .ret (.d (.int 1152921504606846976)) := by
  have h : CPow 2 60 := by decide
  show need (decide (CPow 2 60)) _ = _
  rw [decide_eq_true h]
  rfl
theorem made_if {hi : Int} {ps : List Tr} (K : Mk hi ps) {t : Tr} (ht : 0 ≤ t.1 ∧ t.1 < hi ∧ 1 ≤ t.2.1 ∧ t.2.1 ≤ 2 ^ 64 ∧ 0 ≤ t.2.2 ∧ t.2.2 < t.2.1) (o0 o1 o3 o4 o6 o7 : Option DVal) :
    ∃ ps', (sIf (tA (tV (vCmp (fun i j => decide (i < j)) (vLen (vVar 2)) (vC (.int 8)))) (tV (vEqD (vLcO 2 (gN 6) (tV (vCall F_law_meet (aCons (vVar 5) (aCons (vVar 6) aNil)))) (vVar 6) [6]) (vLst aNil)))) (sApp 2 (vVar 5)) sNext) [o0, o1, some (.o (.l (ps.map trD))), o3, o4, some (.d (trD t)), o6, o7] =
      .ret (.nx [o0, o1, some (.o (.l (ps'.map trD))), o3, o4, some (.d (trD t)), o6, o7]) ∧ Mk hi ps' ∧ 1 ≤ ps'.length := by
  have l8 := K.l8
  have tok : TrOk t := by
    obtain ⟨a, b, c, d, e, f⟩ := ht
    have := big60
    exact ⟨c, by omega, e, f⟩
  have e1 : vLcO 2 (gN 6) (tV (vCall F_law_meet (aCons (vVar 5) (aCons (vVar 6) aNil)))) (vVar 6) [6] [o0, o1, some (.o (.l (ps.map trD))), o3, o4, some (.d (trD t)), o6, o7] = .ret (.d (.list ((ps.filter (meetG t)).map trD))) := by
    refine vLcO_pure trD (meetG t) trD ps rfl (by omega) fun b hb => ⟨_, rfl, ?_, fun _ => rfl⟩
    exact tV_ret (vCall_ret (xs := [.d (trD t), .d (trD b)]) rfl (f_law_meet tok (K.ok b hb)))
  have t2 := tV_ret (vEqD_ret (b := vLst aNil) e1 rfl (plain_trs _) (plain_trs []))
  rw [eqv_nil, List.isEmpty_map] at t2
  by_cases h8 : ps.length < 8
  · have t1 : tV (vCmp (fun i j => decide (i < j)) (vLen (vVar 2)) (vC (.int 8))) [o0, o1, some (.o (.l (ps.map trD))), o3, o4, some (.d (trD t)), o6, o7] = .ret true := by
      have : (ps.length : Int) < 8 := by omega
      simp [this]
    by_cases he : (ps.filter (meetG t)).isEmpty = true
    · rw [he] at t2
      refine ⟨ps ++ [t], ?_, K.snoc ht h8 he, by rw [List.length_append]; show 1 ≤ _ + 1; omega⟩
      refine sIf_t (tA_t t1 t2) ?_
      have r5 : ps.length ≤ 5000 := by omega
      have r6 : ¬ (5000 < ps.length) := by omega
      simp [r5, r6]
    · have he' : (ps.filter (meetG t)).isEmpty = false := by simpa using he
      rw [he'] at t2
      refine ⟨ps, sIf_f (tA_t t1 t2) rfl, K, ?_⟩
      cases ps with
      | nil => exact absurd rfl he
      | cons a r => rw [List.length_cons]; omega
  · have t1 : tV (vCmp (fun i j => decide (i < j)) (vLen (vVar 2)) (vC (.int 8))) [o0, o1, some (.o (.l (ps.map trD))), o3, o4, some (.d (trD t)), o6, o7] = .ret false := by
      have : ¬ ((ps.length : Int) < 8) := by omega
      simp [this]
    exact ⟨ps, sIf_f (tA_f t1) rfl, K, by omega⟩
theorem made_step {hi : Int} (h1 : 1 ≤ hi) (h3 : hi ≤ 3) {ps : List Tr} (K : Mk hi ps) {M : V → Prop} {X : XN} {n : Nat} {m : V} (hm : M m) (hn : n ≤ 50000) (o3 o4 o5 o6 o7 : Option DVal) :
    (madeB [some (.h m), some (.d (.int hi)), some (.o (.l (ps.map trD))), o3, o4, o5, o6, o7]).Wp M n (fun n' o => n' ≤ n + 7 ∧ ∃ ps' o4' o5', o = .nx [some (.h m), some (.d (.int hi)), some (.o (.l (ps'.map trD))), o3, o4', o5', o6, o7] ∧ Mk hi ps' ∧ 1 ≤ ps'.length) X := by
  unfold madeB
  refine wp_seq (wp_asgD (wp_vcall (wp_cons (wp_var rfl (wp_cons (wp_lst (wp_cons (wp_int (wp_vC ⟨1, rfl, wp_call (xs := [.h m, .d (.int 12)]) rfl (wp_draw hm (by omega) (by decide) (by decide) fun r r0 r1 => ⟨r, rfl, ?_⟩)⟩)))))))))
  refine wp_cons (wp_call (xs := [.h m, .d (.list [.int 2, .int 4, .int 8, .int 16, .int 32])]) rfl (wp_of hm (by omega) (by decide) (by decide) fun d hd => ?_))
  have hd' : ∃ j : Int, d = .int j ∧ 1 ≤ j ∧ j ≤ 32 := by
    simp only [List.mem_cons, List.not_mem_nil, or_false] at hd
    rcases hd with rfl | rfl | rfl | rfl | rfl <;> exact ⟨_, rfl, by decide, by decide⟩
  obtain ⟨j, rfl, j1, j2⟩ := hd'
  refine wp_cons (wp_intC (wp_of_ret (pow60 _) ⟨_, rfl, wp_int (wp_vC ⟨1, rfl, wp_call (xs := [.h m, .d (.int 9)]) rfl (wp_draw hm (by omega) (by decide) (by decide) fun q q0 q1 => ⟨q, rfl, _, rfl, ?_, ?_⟩)⟩)⟩))
  · have b := big60
    exact mulW (by decide) (by omega) (by omega) (by omega)
  refine wp_nil ⟨[.int (1 + r), .int j, .int (1152921504606846976 * (1 + q))], rfl, by show 3 ≤ 5000; decide, wp_nil (wp_of hm (by omega) (by show 0 < 3; decide) (by show 3 ≤ 5000; decide) fun d hd => ?_)⟩
  have hd' : ∃ e : Int, d = .int e ∧ 1 ≤ e ∧ e ≤ 2 ^ 64 := by
    simp only [List.mem_cons, List.not_mem_nil, or_false] at hd
    rcases hd with rfl | rfl | rfl
    · exact ⟨_, rfl, by omega, by omega⟩
    · exact ⟨_, rfl, by omega, by omega⟩
    · exact ⟨_, rfl, by omega, by omega⟩
  obtain ⟨e, rfl, e1, e2⟩ := hd'
  have hb := big60
  refine ⟨_, rfl, wp_seq (wp_asgD (wp_tup (wp_cons (wp_call (xs := [.h m, .d (.int hi)]) rfl (wp_draw hm (by omega) (by omega) (big300 (by have := bg0; omega) (by omega)) fun h h0 h1 => ?_)))))⟩
  refine wp_cons (wp_var rfl (wp_cons (wp_vcall (wp_cons (wp_var rfl (wp_cons (wp_lst (wp_cons (wp_call (xs := [.h m, .d (.int e)]) rfl (wp_draw hm (by omega) (by omega) (big300 (by have := bg0; omega) (by omega)) fun s s0 s1 => ?_))))))))))
  refine wp_cons (wp_of_ret (x := .d (.int (e - 1))) rfl (wp_nil ⟨[.int s, .int (e - 1)], rfl, by show 2 ≤ 5000; decide, wp_nil (wp_of hm (by omega) (by show 0 < 2; decide) (by show 2 ≤ 5000; decide) fun d hd => ?_)⟩))
  have hd' : ∃ s : Int, d = .int s ∧ 0 ≤ s ∧ s < e := by
    simp only [List.mem_cons, List.not_mem_nil, or_false] at hd
    rcases hd with rfl | rfl
    · exact ⟨_, rfl, s0, s1⟩
    · exact ⟨_, rfl, by omega, by omega⟩
  obtain ⟨s', rfl, s0', s1'⟩ := hd'
  refine wp_nil ⟨[.int h, .int e, .int s'], rfl, by show 3 ≤ 5000; decide, _, rfl, ?_⟩
  obtain ⟨ps', q, K', l'⟩ := made_if K (t := (h, e, s')) ⟨h0, h1, e1, e2, s0', s1'⟩ (some (.h m)) (some (.d (.int hi))) o3 (some (.d (.int e))) o6 o7
  exact wp_of_ret q ⟨by omega, ps', _, _, rfl, K', l'⟩
end K13
set_option Elab.async false
set_option linter.all false
set_option maxRecDepth 100000
set_option maxHeartbeats 4000000
namespace K13
open PySem L2 Gd PySem.ExG DC CpComb LamX RZ
set_option exponentiation.threshold 10000
theorem zip_snoc {α β : Type} {g : α} {q : β} : ∀ {gs : List α} {qs : List β}, qs[gs.length]? = some q → (gs ++ [g]).zip qs = gs.zip qs ++ [(g, q)]
  | [], q' :: qs, h => by
    cases h
    rfl
  | [], [], h => by cases h
  | a :: gs, [], h => by cases h
  | a :: gs, q' :: qs, h => by
    rw [List.cons_append, List.zip_cons_cons, List.zip_cons_cons, List.cons_append, zip_snoc (by simpa using h)]
theorem pow20 (ρ : Dv) : vIntC CPow (fun i j => i ^ j.toNat) (vC (.int 10)) (vC (.int 20)) ρ = .ret (.d (.int 100000000000000000000)) := by
  have h : CPow 10 20 := by decide
  show need (decide (CPow 10 20)) _ = _
  rw [decide_eq_true h]
  rfl
theorem big21 : (2 : Int) ^ 64 + 100000000000000000000 ≤ bigGap := by decide +kernel
theorem part_ok {hi g : Int} {t : Tr} (h0 : 0 ≤ t.1) (h1 : t.1 < hi) (e1 : 1 ≤ t.2.1) (eg : t.2.1 ≤ g) (s0 : 0 ≤ t.2.2) (s1 : t.2.2 < t.2.1) : partOk hi g (trD t) = true := by
  unfold partOk trD
  show (betw (.int t.1) 0 (hi - 1) && (betw (.int t.2.1) 1 g && betw (.int t.2.2) 0 (t.2.1 - 1))) = true
  show ((decide (0 ≤ t.1) && decide (t.1 ≤ hi - 1)) && ((decide (1 ≤ t.2.1) && decide (t.2.1 ≤ g)) && (decide (0 ≤ t.2.2) && decide (t.2.2 ≤ t.2.1 - 1)))) = true
  rw [decide_eq_true h0, decide_eq_true (show t.1 ≤ hi - 1 by omega), decide_eq_true e1, decide_eq_true eg, decide_eq_true s0, decide_eq_true (show t.2.2 ≤ t.2.1 - 1 by omega)]
  rfl
theorem tr_id (ps : List Tr) : (ps.map trD).map trOf = ps := by
  rw [List.map_map]
  exact (List.map_congr_left fun t _ => rfl).trans (List.map_id _)
/-- what is made -/
def madeP (n n' : Nat) (x : DVal) : Prop := n' ≤ n + 200 ∧ ∃ hi gs ps, x = .d (.tuple [planD hi gs, .tuple (ps.map trD)]) ∧ Good hi gs ∧ Mk hi ps ∧ 1 ≤ ps.length ∧ partsB hi gs (.tuple (ps.map trD)) = true
theorem wp_made {M : V → Prop} {X : XN} {n : Nat} {m : V} (hm : M m) (hn : n ≤ 40000) : (F_law_made [.h m]).Wp M n (madeP n) X := by
  unfold F_law_made
  refine wp_fnT rfl rfl ?_
  unfold m_law_made
  show T.Wp M (sSeq _ (sSeq (sFor _ (gN 3) madeB) _) [some (.h m), none, none, none, none, none, none, none]) _ _ _
  refine wp_seq (wp_parO (wp_int (wp_vC ⟨1, rfl, wp_call (xs := [.h m, .d (.int 3)]) rfl (wp_draw hm (by omega) (by decide) (by decide) fun h h0 h1 => ⟨h, rfl, _, rfl, ?_⟩)⟩)))
  refine wp_nil ⟨[], rfl, by show 0 ≤ 5000; decide, ?_⟩
  generalize hhi : (1 : Int) + h = hi
  have hi1 : 1 ≤ hi := by omega
  have hi3 : hi ≤ 3 := by omega
  refine wp_seq (wp_sFor (wp_iR1 (wp_intC (wp_vC ⟨4, rfl, wp_int (wp_vC ⟨1, rfl, wp_call (xs := [.h m, .d (.int 6)]) rfl (wp_draw hm (by omega) (by decide) (by decide) fun r r0 r1 => ⟨r, rfl, _, rfl, ?_, ?_⟩)⟩)⟩))))
  · have b := big60
    exact mulW (by decide) (by omega) (by omega) (by omega)
  obtain ⟨k, rfl⟩ := Int.eq_ofNat_of_zero_le r0
  refine ⟨4 * (1 + k), by congr 2, by omega, ?_⟩
  refine Wp_forGo (rgD 0 (4 * (1 + k))) (fun i n' ρ => n' ≤ n + 2 + 7 * i ∧ ∃ ps o3 o4 o5 o6 o7, ρ = [some (.h m), some (.d (.int hi)), some (.o (.l (ps.map trD))), o3, o4, o5, o6, o7] ∧ Mk hi ps ∧ (1 ≤ i → 1 ≤ ps.length)) ?_ ?_
    ⟨by omega, [], none, none, none, none, none, rfl, ⟨by decide, (fun t h => by cases h), List.Pairwise.nil⟩, fun h => by omega⟩
  · rintro i x n' ρ hx ⟨hn', ps, o3, o4, o5, o6, o7, rfl, K, l1⟩
    obtain ⟨hik, rfl⟩ := rg_get hx
    refine ⟨[some (.h m), some (.d (.int hi)), some (.o (.l (ps.map trD))), some (.d (.int (0 + (i : Nat)))), o4, o5, o6, o7], rfl, ?_⟩
    refine (made_step hi1 hi3 K hm (by omega) (some (.d (.int (0 + (i : Nat))))) o4 o5 o6 o7).mono fun n2 o ho => ?_
    obtain ⟨h2, ps', o4', o5', rfl, K', l'⟩ := ho
    exact ⟨by omega, ps', _, _, _, _, _, rfl, K', fun _ => l'⟩
  · rintro n2 ρ ⟨hn2, ps, o3, o4, o5, o6, o7, rfl, K, l1⟩
    rw [rgD_len] at hn2 l1
    have l1 := l1 (by omega)
    have l8 := K.l8
    dsimp only
    refine wp_seq (wp_asgD (wp_lcO (xs := ps.map trD) rfl (by rw [List.length_map]; omega) ?_))
    refine Wp_lcGo (ps.map trD) (fun i n' acc => n' ≤ n2 + 2 * i ∧ ∃ gs : List Int, acc = gs.map .int ∧ gs.length = i ∧ (∀ g ∈ gs, 1 ≤ g ∧ g ≤ bigGap) ∧ (gs.zip (ps.map trD)).all (fun p => partOk hi p.1 p.2) = true) ?_ ?_ ⟨by omega, [], rfl, rfl, (fun g h => by cases h), rfl⟩
    · rintro i x n' acc hx ⟨hn', gs, rfl, hgl, hgs, hall⟩
      obtain ⟨hil, ex⟩ := List.getElem?_eq_some_iff.mp hx
      rw [List.length_map] at hil
      rw [List.getElem_map] at ex
      have htm := K.all ps[i] (List.getElem_mem hil)
      generalize ps[i] = t at ex htm
      subst ex
      obtain ⟨a0, a1, a2, a3, a4, a5⟩ := htm
      refine ⟨_, rfl, wp_of_ret (x := true) rfl ?_⟩
      rw [if_pos rfl]
      refine wp_int (wp_of_ret (x := .d (.int t.2.1)) rfl ⟨_, rfl, wp_vcall (wp_cons (wp_var rfl (wp_cons (wp_lst ?_))))⟩)
      refine wp_cons (wp_vC (wp_cons (wp_vC (wp_cons (wp_vC (wp_cons (wp_call (xs := [.h m, .d (.int 9)]) rfl (wp_draw hm (by omega) (by decide) (by decide) fun q q0 q1 => ?_))))))))
      refine wp_cons (wp_of_ret (pow20 _) (wp_nil ⟨[.int 0, .int 0, .int 1, .int q, .int 100000000000000000000], rfl, by show 5 ≤ 5000; decide, wp_nil (wp_of hm (by omega) (by show 0 < 5; decide) (by show 5 ≤ 5000; decide) fun d hd => ?_)⟩))
      have hd' : ∃ j : Int, d = .int j ∧ 0 ≤ j ∧ j ≤ 100000000000000000000 := by
        simp only [List.mem_cons, List.not_mem_nil, or_false] at hd
        rcases hd with rfl | rfl | rfl | rfl | rfl <;> exact ⟨_, rfl, by omega, by omega⟩
      obtain ⟨j, rfl, j0, j1⟩ := hd'
      have hb := big21
      refine ⟨j, rfl, _, rfl, by omega, gs ++ [t.2.1 + j], by rw [List.map_append]; rfl, by rw [List.length_append, hgl]; rfl, fun g hg => ?_, ?_⟩
      · rcases List.mem_append.mp hg with hg | hg
        · exact hgs g hg
        · rw [List.mem_singleton.mp hg]
          omega
      · rw [zip_snoc (q := trD t) (by rw [hgl, hx]), List.all_append, hall, Bool.true_and, List.all_cons, List.all_nil, Bool.and_true]
        exact part_ok a0 a1 a2 (by omega) a4 a5
    · rintro n3 acc ⟨hn3, gs, rfl, hgl, hgs, hall⟩
      rw [List.length_map] at hgl hn3
      have G : Good hi gs := ⟨hi1, hi3, by omega, by omega, hgs⟩
      refine ⟨_, rfl, ?_⟩
      refine wp_of_ret (x := .rt (.d (.tuple [planD hi gs, .tuple (ps.map trD)]))) rfl ⟨by omega, hi, gs, ps, rfl, G, K, l1, ?_⟩
      rw [partsB_tup, tr_id, decide_eq_true K.nom, hall, decide_eq_true (by rw [List.length_map, hgl])]
      rfl
end K13
set_option Elab.async false
set_option linter.all false
set_option maxRecDepth 100000
set_option maxHeartbeats 4000000
namespace K13
open PySem L2 Gd PySem.ExG DC CpComb LamX RZ
set_option exponentiation.threshold 10000
/-! ### days by parts -/
theorem f_need_number (gs : List Int) (d : PyData) : F_need_number [.d (gD gs), .d d] = if betw d 0 ((gs.length : Int) - 1) = true then .ret (.d d) else .exc 1 "value" d := by
  unfold F_need_number m_need_number gD
  by_cases h : betw d 0 ((gs.length : Int) - 1) = true <;> simp [ρ0, f_is_between, h]
theorem f_need_parts_bad (d x : PyData) (p : List Int) (h : plc d = some p) : F_need_parts [.d d, .d x] = .exc 0 "place" (plD p) := by
  unfold F_need_parts m_need_parts
  simp [ρ0, f_parts_bad d x p h]
theorem f_need_parts {hi : Int} {gs : List Int} (G : Good hi gs) (d : PyData) : F_need_parts [.d (planD hi gs), .d d] = if partsB hi gs d = true then .ret (.d d) else .exc 2 "value" d := by
  unfold F_need_parts m_need_parts
  by_cases h : partsB hi gs d = true <;> simp [ρ0, f_are_parts G, h]
theorem f_need_day (d : PyData) : F_need_day_number [.d d] = if betw d 0 bigGap = true then .ret (.d d) else .exc 1 "value" d := by
  have t : tN (tV (vCall F_is_between (aCons (vVar 0) (aCons (vC (.int 0)) (aCons (vC (.int (10 ^ 30))) aNil))))) [some (.d d)] = .ret (!betw d 0 bigGap) := tN_ret (tV_ret (vCall_ret (xs := [.d d, .d (.int 0), .d (.int bigGap)]) rfl (f_is_between d 0 bigGap)))
  by_cases h : betw d 0 bigGap = true
  · rw [h] at t
    rw [if_pos h]
    exact fnT_rt rfl rfl (seq_nx (sIf_f t rfl) rfl)
  · have h' : betw d 0 bigGap = false := by simpa using h
    rw [h'] at t
    rw [if_neg h]
    exact fnT_exc rfl rfl (seq_exc (sIf_t t rfl))
def dT : Tr := (0, 1, 0)
/-- the things that come on a day -/
def comeL (ps : List Tr) (day : Int) : List Int := ((List.range ps.length).filter fun k => decide (day % (ps.getD k dT).2.1 = (ps.getD k dT).2.2)).map fun (k : Nat) => (k : Int)
theorem zipIdx_rg (ps : List Tr) : ps.zipIdx = (List.range ps.length).map fun k => (ps.getD k dT, k) := by
  refine List.ext_getElem (by simp) fun i h1 h2 => ?_
  rw [List.length_zipIdx] at h1
  simp [List.getD_eq_getElem?_getD, List.getElem?_eq_getElem h1]
theorem f_come_on (ps : List Tr) (h5 : ps.length ≤ 5000) (he : ∀ t ∈ ps, 1 ≤ t.2.1) (day : Int) : F_come_on [.d (.tuple (ps.map trD)), .d (.int day)] = .ret (.d (tD (comeL ps day))) := by
  have e : vLc (iEnT' (vVar 0)) (g2 (gN 2) (g3 (gN 3) (gN 4) (gN 5))) (tV (vEq (vIntC (fun _ j => 0 < j) (fun i j => i % j) (vVar 1) (vVar 4)) (vVar 5))) (vVar 2) [2, 3, 4, 5] [some (.d (.tuple (ps.map trD))), some (.d (.int day)), none, none, none, none] =
      .ret (.d (.list (((List.range ps.length).filter fun k => decide (day % (ps.getD k dT).2.1 = (ps.getD k dT).2.2)).map fun (k : Nat) => PyData.int (k : Int)))) := by
    rw [vLc_pure (fun k : Nat => .tuple [.int (k : Nat), trD (ps.getD k dT)]) (fun k => decide (day % (ps.getD k dT).2.1 = (ps.getD k dT).2.2)) (fun (k : Nat) => PyData.int (k : Int)) (List.range ps.length) ?_ (by rw [List.length_range]; exact h5)]
    · intro k hk
      have hk := List.mem_range.mp hk
      have hp : 1 ≤ (ps.getD k dT).2.1 := by
        rw [List.getD_eq_getElem?_getD, List.getElem?_eq_getElem hk]
        exact he _ (List.getElem_mem hk)
      have hp' : 0 < (ps.getD k dT).2.1 := by omega
      generalize ps.getD k dT = t at hp' ⊢
      refine ⟨[some (.d (.tuple (ps.map trD))), some (.d (.int day)), some (.d (.int (k : Nat))), some (.d (.int t.1)), some (.d (.int t.2.1)), some (.d (.int t.2.2))], rfl, ?_, fun _ => rfl⟩
      simp [sc, hp']
    · have z := zipIdx_rg ps
      show T.ret (enD (ps.map trD)) = _
      unfold enD
      rw [List.zipIdx_map, z, List.map_map, List.map_map]
      rfl
  refine fnT_rt rfl rfl (sRet_ret ?_)
  have q : vTupOf (vLc (iEnT' (vVar 0)) (g2 (gN 2) (g3 (gN 3) (gN 4) (gN 5))) (tV (vEq (vIntC (fun _ j => 0 < j) (fun i j => i % j) (vVar 1) (vVar 4)) (vVar 5))) (vVar 2) [2, 3, 4, 5]) [some (.d (.tuple (ps.map trD))), some (.d (.int day)), none, none, none, none] =
      .ret (.d (.tuple (((List.range ps.length).filter fun k => decide (day % (ps.getD k dT).2.1 = (ps.getD k dT).2.2)).map fun (k : Nat) => PyData.int (k : Int)))) := by
    unfold vTupOf
    rw [e, T.bind_ret]
    rfl
  show vTupOf _ [some (.d (.tuple (ps.map trD))), some (.d (.int day)), none, none, none, none] = _
  rw [q]
  unfold comeL tD
  rw [List.map_map]
  rfl
theorem f_law_day (ps : List Tr) (h5 : ps.length ≤ 5000) (he : ∀ t ∈ ps, 1 ≤ t.2.1) (day : Int) : F_law_day [.d (.tuple (ps.map trD)), .d (.int day)] = .ret (.d (tD (comeL ps day))) := by
  have e : vLc (iR1 (vLen (vVar 0))) (gN 2) (tV (vEq (vIntC (fun _ j => 0 < j) (fun i j => i % j) (vIntI (vVar 1)) (vIxT (vIxT (vVar 0) (vVar 2)) (vC (.int 1)))) (vIxT (vIxT (vVar 0) (vVar 2)) (vC (.int 2))))) (vVar 2) [2] [some (.d (.tuple (ps.map trD))), some (.d (.int day)), none] =
      .ret (.d (.list (((List.range ps.length).filter fun k => decide (day % (ps.getD k dT).2.1 = (ps.getD k dT).2.2)).map fun (k : Nat) => PyData.int (0 + (k : Int))))) := by
    rw [vLc_pure (fun k : Nat => PyData.int (0 + (k : Int))) (fun k => decide (day % (ps.getD k dT).2.1 = (ps.getD k dT).2.2)) (fun (k : Nat) => PyData.int (0 + (k : Int))) (List.range ps.length) ?_ (by rw [List.length_range]; exact h5)]
    · intro k hk
      have hk := List.mem_range.mp hk
      have hp : 1 ≤ (ps.getD k dT).2.1 := by
        rw [List.getD_eq_getElem?_getD, List.getElem?_eq_getElem hk]
        exact he _ (List.getElem_mem hk)
      have a1 : atI (ps.map trD) (0 + (k : Int)) = some (trD (ps.getD k dT)) := by
        rw [Int.zero_add]
        exact atI_nat (by rw [List.getElem?_map, List.getElem?_eq_getElem hk, List.getD_eq_getElem?_getD, List.getElem?_eq_getElem hk]; rfl)
      have hp' : 0 < (ps.getD k dT).2.1 := by omega
      generalize ps.getD k dT = t at hp' a1 ⊢
      refine ⟨[some (.d (.tuple (ps.map trD))), some (.d (.int day)), some (.d (.int (0 + (k : Nat))))], rfl, ?_, fun _ => rfl⟩
      generalize (0 + (k : Int)) = kk at a1 ⊢
      have B0 : vIxT (vVar 0) (vVar 2) [some (.d (.tuple (ps.map trD))), some (.d (.int day)), some (.d (.int kk))] = .ret (.d (trD t)) := by simp only [vIxT_c, vVar_c, List.getElem?_cons_zero, List.getElem?_cons_succ, T.bind_ret, asT_0, asI_0, a1]
      have B1 : vIxT (vIxT (vVar 0) (vVar 2)) (vC (.int 1)) [some (.d (.tuple (ps.map trD))), some (.d (.int day)), some (.d (.int kk))] = .ret (.d (.int t.2.1)) := by
        unfold vIxT at B0 ⊢
        rw [B0]
        rfl
      have B2 : vIxT (vIxT (vVar 0) (vVar 2)) (vC (.int 2)) [some (.d (.tuple (ps.map trD))), some (.d (.int day)), some (.d (.int kk))] = .ret (.d (.int t.2.2)) := by
        unfold vIxT at B0 ⊢
        rw [B0]
        rfl
      simp [-vIxT_c, B1, B2, sc, hp']
    · refine iR1_nat _ _ _ _ h5 ?_
      simp
  refine fnT_rt rfl rfl (sRet_ret ?_)
  have q : vTupOf (vLc (iR1 (vLen (vVar 0))) (gN 2) (tV (vEq (vIntC (fun _ j => 0 < j) (fun i j => i % j) (vIntI (vVar 1)) (vIxT (vIxT (vVar 0) (vVar 2)) (vC (.int 1)))) (vIxT (vIxT (vVar 0) (vVar 2)) (vC (.int 2))))) (vVar 2) [2]) [some (.d (.tuple (ps.map trD))), some (.d (.int day)), none] =
      .ret (.d (.tuple (((List.range ps.length).filter fun k => decide (day % (ps.getD k dT).2.1 = (ps.getD k dT).2.2)).map fun (k : Nat) => PyData.int (0 + (k : Int))))) := by
    unfold vTupOf
    rw [e, T.bind_ret]
    rfl
  show vTupOf _ [some (.d (.tuple (ps.map trD))), some (.d (.int day)), none] = _
  rw [q]
  unfold comeL tD
  rw [List.map_map]
  congr 4
  funext k
  show PyData.int (0 + (k : Int)) = .int (k : Int)
  rw [Int.zero_add]
/-! #### refusals, and what is told -/
theorem sDrop_ret {f : VE} {ρ : Dv} {x : DVal} (e : f ρ = .ret x) : sDrop f ρ = .ret (.nx ρ) := by
  unfold sDrop
  rw [e]
  rfl
theorem sDrop_exc {f : VE} {ρ : Dv} {c : Nat} {x : Str} {d : PyData} (e : f ρ = .exc c x d) : sDrop f ρ = .exc c x d := by
  unfold sDrop
  rw [e]
  rfl
theorem sUnp_exc {g : VG} {f : VE} {ρ : Dv} {c : Nat} {x : Str} {d : PyData} (e : f ρ = .exc c x d) : sUnp g f ρ = .exc c x d := by
  unfold sUnp
  rw [e]
  rfl
theorem sRet_exc {f : VE} {ρ : Dv} {c : Nat} {x : Str} {d : PyData} (e : f ρ = .exc c x d) : sRet f ρ = .exc c x d := by
  unfold sRet
  rw [e]
  rfl
theorem f_need_plan_bad (d : PyData) (p : List Int) (h : plc d = some p) : F_need_plan [.d d] = .exc 0 "place" (plD p) := by
  rw [f_need_plan]
  unfold needT
  rw [h]
theorem day_plan (d x y : PyData) (p : List Int) (h : plc d = some p) : F_day_by [.d d, .d x, .d y] = .exc 0 "place" (plD p) :=
  fnT_exc rfl rfl (seq_exc (sDrop_exc (vCallS_ret (xs := [.d d, .d x]) rfl (f_need_parts_bad d x p h))))
theorem next_plan (d x y z : PyData) (p : List Int) (h : plc d = some p) : F_next_by [.d d, .d x, .d y, .d z] = .exc 0 "place" (plD p) :=
  fnT_exc rfl rfl (seq_exc (sUnp_exc (vCallS_ret (xs := [.d d]) rfl (f_need_plan_bad d p h))))
theorem row_plan (d x y : PyData) (p : List Int) (h : plc d = some p) : F_row_by [.d d, .d x, .d y] = .exc 0 "place" (plD p) :=
  fnT_exc rfl rfl (seq_exc (sDrop_exc (vCallS_ret (xs := [.d d, .d x]) rfl (f_need_parts_bad d x p h))))
section
variable {hi : Int} {gs : List Int} (G : Good hi gs)
include G
theorem unp_plan (o1 o2 o3 o4 o5 o6 o7 : Option DVal) : sUnp (g2 (gN 4) (gN 5)) (vCallS F_need_plan (aCons (vVar 0) aNil)) [some (.d (planD hi gs)), o1, o2, o3, o4, o5, o6, o7] = .ret (.nx [some (.d (planD hi gs)), o1, o2, o3, some (.d (.int hi)), some (.d (gD gs)), o6, o7]) := by
  unfold sUnp
  rw [vCallS_ret (xs := [.d (planD hi gs)]) rfl (f_need_good G)]
  rfl
theorem day_parts (x y : PyData) (h : partsB hi gs x = false) : F_day_by [.d (planD hi gs), .d x, .d y] = .exc 2 "value" x := by
  have e := f_need_parts G x
  rw [h, if_neg (by decide)] at e
  exact fnT_exc rfl rfl (seq_exc (sDrop_exc (vCallS_ret rfl e)))
theorem row_parts (x y : PyData) (h : partsB hi gs x = false) : F_row_by [.d (planD hi gs), .d x, .d y] = .exc 2 "value" x := by
  have e := f_need_parts G x
  rw [h, if_neg (by decide)] at e
  exact fnT_exc rfl rfl (seq_exc (sDrop_exc (vCallS_ret rfl e)))
theorem next_parts (x y z : PyData) (h : partsB hi gs x = false) : F_next_by [.d (planD hi gs), .d x, .d y, .d z] = .exc 2 "value" x := by
  have e := f_need_parts G x
  rw [h, if_neg (by decide)] at e
  exact fnT_exc rfl rfl (seq_nx (unp_plan G _ _ _ _ _ _ _) (seq_exc (sDrop_exc (vCallS_ret (xs := [.d (planD hi gs), .d x]) rfl e))))
variable {ps : List Tr} (h : partsB hi gs (.tuple (ps.map trD)) = true)
include h
theorem need_ok : F_need_parts [.d (planD hi gs), .d (.tuple (ps.map trD))] = .ret (.d (.tuple (ps.map trD))) := by
  rw [f_need_parts G, if_pos h]
theorem day_day (y : PyData) (hy : betw y 0 bigGap = false) : F_day_by [.d (planD hi gs), .d (.tuple (ps.map trD)), .d y] = .exc 1 "value" y := by
  have e := f_need_day y
  rw [hy, if_neg (by decide)] at e
  refine fnT_exc rfl rfl (seq_nx (sDrop_ret (vCallS_ret rfl (need_ok G h))) (sRet_exc ?_))
  unfold vCall aCons
  show ((((T.ret (DVal.d (.tuple (ps.map trD)))).bind fun x => ((((vCallS F_need_day_number (aCons (vVar 2) aNil)) _).bind _).bind _))).bind _) = _
  rw [T.bind_ret, vCallS_ret (xs := [.d y]) rfl e]
  rfl
theorem next_num (y z : PyData) (hy : betw y 0 ((gs.length : Int) - 1) = false) : F_next_by [.d (planD hi gs), .d (.tuple (ps.map trD)), .d y, .d z] = .exc 1 "value" y := by
  have e := f_need_number gs y
  rw [hy, if_neg (by decide)] at e
  exact fnT_exc rfl rfl (seq_nx (unp_plan G _ _ _ _ _ _ _) (seq_nx (sDrop_ret (vCallS_ret (xs := [.d (planD hi gs), .d (.tuple (ps.map trD))]) rfl (need_ok G h))) (seq_exc (sDrop_exc (vCallS_ret (xs := [.d (gD gs), .d y]) rfl e)))))
theorem next_day (y z : PyData) (hy : betw y 0 ((gs.length : Int) - 1) = true) (hz : betw z 0 bigGap = false) : F_next_by [.d (planD hi gs), .d (.tuple (ps.map trD)), .d y, .d z] = .exc 1 "value" z := by
  have e := f_need_number gs y
  rw [hy, if_pos rfl] at e
  have e2 := f_need_day z
  rw [hz, if_neg (by decide)] at e2
  exact fnT_exc rfl rfl (seq_nx (unp_plan G _ _ _ _ _ _ _) (seq_nx (sDrop_ret (vCallS_ret (xs := [.d (planD hi gs), .d (.tuple (ps.map trD))]) rfl (need_ok G h))) (seq_nx (sDrop_ret (vCallS_ret (xs := [.d (gD gs), .d y]) rfl e)) (seq_exc (sDrop_exc (vCallS_ret (xs := [.d z]) rfl e2))))))
theorem row_num (y : PyData) (hy : betw y 0 1000 = false) : F_row_by [.d (planD hi gs), .d (.tuple (ps.map trD)), .d y] = .exc 1 "value" y := by
  refine fnT_exc rfl rfl (seq_nx (sDrop_ret (vCallS_ret rfl (need_ok G h))) (seq_exc ?_))
  have t : tN (tV (vCall F_is_between (aCons (vVar 2) (aCons (vC (.int 0)) (aCons (vC (.int 1000)) aNil))))) [some (.d (planD hi gs)), some (.d (.tuple (ps.map trD))), some (.d y), none] = .ret true := by
    have := tN_ret (tV_ret (vCall_ret (a := aCons (vVar 2) (aCons (vC (.int 0)) (aCons (vC (.int 1000)) aNil))) (ρ := [some (.d (planD hi gs)), some (.d (.tuple (ps.map trD))), some (.d y), none]) rfl (f_is_between y 0 1000)))
    rw [hy] at this
    exact this
  exact sIf_t t rfl
variable (he : ∀ t ∈ ps, 1 ≤ t.2.1) (l8 : ps.length ≤ 8)
include he l8
theorem day_ok {y : Int} (y0 : 0 ≤ y) (y1 : y ≤ bigGap) : F_day_by [.d (planD hi gs), .d (.tuple (ps.map trD)), .d (.int y)] = .ret (.d (tD (comeL ps y))) := by
  have e := f_need_day (.int y)
  have hb : betw (.int y) 0 bigGap = true := by
    show (decide (0 ≤ y) && decide (y ≤ bigGap)) = true
    rw [decide_eq_true y0, decide_eq_true y1]
    rfl
  rw [hb, if_pos rfl] at e
  refine fnT_rt rfl rfl (seq_nx (sDrop_ret (vCallS_ret rfl (need_ok G h))) (sRet_ret (vCall_ret (xs := [.d (.tuple (ps.map trD)), .d (.int y)]) ?_ (f_come_on ps (by omega) he y))))
  exact aCons_ret rfl (aCons_ret (vCallS_ret (xs := [.d (.int y)]) rfl e) rfl)
theorem row_ok {k : Nat} (hk : k ≤ 1000) : F_row_by [.d (planD hi gs), .d (.tuple (ps.map trD)), .d (.int k)] = .ret (.d (.tuple ((List.range k).map fun (i : Nat) => tD (comeL ps (0 + (i : Int)))))) := by
  have hb : betw (.int (k : Int)) 0 1000 = true := by
    show (decide (0 ≤ (k : Int)) && decide ((k : Int) ≤ 1000)) = true
    rw [decide_eq_true (by omega), decide_eq_true (by omega)]
    rfl
  have t : tN (tV (vCall F_is_between (aCons (vVar 2) (aCons (vC (.int 0)) (aCons (vC (.int 1000)) aNil))))) [some (.d (planD hi gs)), some (.d (.tuple (ps.map trD))), some (.d (.int k)), none] = .ret false := by
    have := tN_ret (tV_ret (vCall_ret (a := aCons (vVar 2) (aCons (vC (.int 0)) (aCons (vC (.int 1000)) aNil))) (ρ := [some (.d (planD hi gs)), some (.d (.tuple (ps.map trD))), some (.d (.int k)), none]) rfl (f_is_between (.int k) 0 1000)))
    rw [hb] at this
    exact this
  have e : vLc (iR1 (vVar 2)) (gN 3) tY (vCall F_come_on (aCons (vVar 1) (aCons (vVar 3) aNil))) [3] [some (.d (planD hi gs)), some (.d (.tuple (ps.map trD))), some (.d (.int k)), none] = .ret (.d (.list ((List.range k).map fun (i : Nat) => tD (comeL ps (0 + (i : Int)))))) := by
    refine vLc_map (fun (i : Nat) => PyData.int (0 + (i : Int))) (fun (i : Nat) => tD (comeL ps (0 + (i : Int)))) (List.range k) (iR1_nat _ _ _ _ (by omega) rfl) (by rw [List.length_range]; omega) fun i hi => ⟨_, rfl, ?_⟩
    exact vCall_ret rfl (f_come_on ps (by omega) he _)
  refine fnT_rt rfl rfl (seq_nx (sDrop_ret (vCallS_ret rfl (need_ok G h))) (seq_nx (sIf_f t rfl) (sRet_ret ?_)))
  unfold vTupOf
  show ((vLc (iR1 (vVar 2)) (gN 3) tY (vCall F_come_on (aCons (vVar 1) (aCons (vVar 3) aNil))) [3] [some (.d (planD hi gs)), some (.d (.tuple (ps.map trD))), some (.d (.int k)), none]).bind _) = _
  rw [e]
  rfl
theorem next_ok {k : Nat} {t : Tr} (hk : ps[k]? = some t) (hl : ps.length = gs.length) {y : Int} (y0 : 0 ≤ y) (y1 : y ≤ bigGap) : F_next_by [.d (planD hi gs), .d (.tuple (ps.map trD)), .d (.int k), .d (.int y)] = .ret (.d (.int (y + (t.2.2 - y) % t.2.1))) := by
  obtain ⟨hkl, hkt⟩ := List.getElem?_eq_some_iff.mp hk
  have e := f_need_number gs (.int k)
  have hb : betw (.int (k : Int)) 0 ((gs.length : Int) - 1) = true := by
    show (decide (0 ≤ (k : Int)) && decide ((k : Int) ≤ (gs.length : Int) - 1)) = true
    rw [decide_eq_true (by omega), decide_eq_true (by omega)]
    rfl
  rw [hb, if_pos rfl] at e
  have e2 := f_need_day (.int y)
  have hb2 : betw (.int y) 0 bigGap = true := by
    show (decide (0 ≤ y) && decide (y ≤ bigGap)) = true
    rw [decide_eq_true y0, decide_eq_true y1]
    rfl
  rw [hb2, if_pos rfl] at e2
  have a1 : atI (ps.map trD) (k : Nat) = some (trD t) := atI_nat (by rw [List.getElem?_map, hk]; rfl)
  have et := he t (List.mem_of_getElem? hk)
  have et' : 0 < t.2.1 := by omega
  have u : sUnp (g3 (gN 4) (gN 6) (gN 7)) (vIxT (vVar 1) (vVar 2)) [some (.d (planD hi gs)), some (.d (.tuple (ps.map trD))), some (.d (.int k)), some (.d (.int y)), some (.d (.int hi)), some (.d (gD gs)), none, none] =
      .ret (.nx [some (.d (planD hi gs)), some (.d (.tuple (ps.map trD))), some (.d (.int k)), some (.d (.int y)), some (.d (.int t.1)), some (.d (gD gs)), some (.d (.int t.2.1)), some (.d (.int t.2.2))]) := by
    unfold sUnp
    have : vIxT (vVar 1) (vVar 2) [some (.d (planD hi gs)), some (.d (.tuple (ps.map trD))), some (.d (.int k)), some (.d (.int y)), some (.d (.int hi)), some (.d (gD gs)), none, none] = .ret (.d (trD t)) := by simp [a1]
    rw [this]
    rfl
  refine fnT_rt rfl rfl (seq_nx (unp_plan G _ _ _ _ _ _ _) (seq_nx (sDrop_ret (vCallS_ret (xs := [.d (planD hi gs), .d (.tuple (ps.map trD))]) rfl (need_ok G h))) (seq_nx (sDrop_ret (vCallS_ret (xs := [.d (gD gs), .d (.int k)]) rfl e)) (seq_nx (sDrop_ret (vCallS_ret (xs := [.d (.int y)]) rfl e2)) (seq_nx u (sRet_ret ?_))))))
  simp [et']
end
end K13
set_option Elab.async false
set_option linter.all false
set_option maxRecDepth 100000
set_option maxHeartbeats 4000000
namespace K13
open PySem L2 Gd PySem.ExG DC CpComb LamX RZ
set_option exponentiation.threshold 10000
/-! ### how many come on a day -/
theorem pigeon : ∀ (n : Nat) (l : List Int), l.Nodup → (∀ x ∈ l, 0 ≤ x ∧ x < (n : Int)) → l.length ≤ n
  | 0, [], _, _ => Nat.le_refl _
  | 0, x :: l, _, h => by
    have := h x List.mem_cons_self
    omega
  | n + 1, l, hn, h => by
    have ih := pigeon n (l.erase (n : Int)) (hn.erase _) fun x hx => by
      obtain ⟨h1, h2⟩ := (hn.mem_erase_iff).mp hx
      have := h x h2
      omega
    by_cases q : (n : Int) ∈ l
    · rw [List.length_erase_of_mem q] at ih
      omega
    · rw [List.erase_of_not_mem q] at ih
      omega
theorem crt_fwd {a b s t k : Int} (h1 : k % a = s) (h2 : k % b = t) : (s - t) % ((Nat.gcd a.natAbs b.natAbs : Nat) : Int) = 0 := by
  have ga : ((Nat.gcd a.natAbs b.natAbs : Nat) : Int) ∣ a := Int.ofNat_dvd_left.mpr (Nat.gcd_dvd_left _ _)
  have gb : ((Nat.gcd a.natAbs b.natAbs : Nat) : Int) ∣ b := Int.ofNat_dvd_left.mpr (Nat.gcd_dvd_right _ _)
  refine Int.emod_eq_zero_of_dvd ?_
  have e1 : s - t = b * (k / b) - a * (k / a) := by
    have q1 := Int.mul_ediv_add_emod k a
    have q2 := Int.mul_ediv_add_emod k b
    omega
  rw [e1]
  exact Int.dvd_sub (Int.dvd_trans gb (Int.dvd_mul_right _ _)) (Int.dvd_trans ga (Int.dvd_mul_right _ _))
theorem come_len {hi : Int} {ps : List Tr} (K : Mk hi ps) (h0 : 0 ≤ hi) (day : Int) : ((comeL ps day).length : Int) ≤ hi := by
  have key : ((((List.range ps.length).filter fun k => decide (day % (ps.getD k dT).2.1 = (ps.getD k dT).2.2)).map fun k => (ps.getD k dT).1)).length ≤ hi.toNat := by
    refine pigeon hi.toNat _ ?_ fun x hx => ?_
    · refine List.pairwise_map.mpr (List.Pairwise.imp_of_mem (R := fun a b => a < b) (fun {i j} hi' hj hij z => ?_) (List.pairwise_lt_range.filter _))
      obtain ⟨i1, i2⟩ := List.mem_filter.mp hi'
      obtain ⟨j1, j2⟩ := List.mem_filter.mp hj
      have i1 := List.mem_range.mp i1
      have j1 := List.mem_range.mp j1
      have i2 := of_decide_eq_true i2
      have j2 := of_decide_eq_true j2
      have nm := List.pairwise_iff_getElem.mp K.nom i j i1 j1 hij
      rw [List.getD_eq_getElem?_getD, List.getElem?_eq_getElem i1] at i2 z
      rw [List.getD_eq_getElem?_getD, List.getElem?_eq_getElem j1] at j2 z
      have i2 : day % (ps[i]).2.1 = (ps[i]).2.2 := i2
      have j2 : day % (ps[j]).2.1 = (ps[j]).2.2 := j2
      have z : (ps[i]).1 = (ps[j]).1 := z
      unfold meetG at nm
      rw [decide_eq_true z, decide_eq_true (crt_fwd i2 j2)] at nm
      cases nm
    · obtain ⟨k, hk, rfl⟩ := List.mem_map.mp hx
      have hk := List.mem_range.mp (List.mem_filter.mp hk).1
      rw [List.getD_eq_getElem?_getD, List.getElem?_eq_getElem hk]
      obtain ⟨a, b, _⟩ := K.all ps[k] (List.getElem_mem hk)
      show 0 ≤ (ps[k]).1 ∧ (ps[k]).1 < ((hi.toNat : Nat) : Int)
      omega
  unfold comeL
  rw [List.length_map] at key ⊢
  omega
theorem mem_come {ps : List Tr} {day : Int} {k : Nat} : (comeL ps day).contains (k : Int) = true ↔ k < ps.length ∧ day % (ps.getD k dT).2.1 = (ps.getD k dT).2.2 := by
  rw [List.contains_iff_mem]
  unfold comeL
  constructor
  · intro h
    obtain ⟨j, hj, e⟩ := List.mem_map.mp h
    have : j = k := by omega
    subst this
    obtain ⟨h1, h2⟩ := List.mem_filter.mp hj
    exact ⟨List.mem_range.mp h1, of_decide_eq_true h2⟩
  · rintro ⟨h1, h2⟩
    exact List.mem_map.mpr ⟨k, List.mem_filter.mpr ⟨List.mem_range.mpr h1, decide_eq_true h2⟩, rfl⟩
theorem next_come {e s y : Int} (h0 : 0 ≤ s) (h1 : s < e) : (y + (s - y) % e) % e = s := by
  rw [Int.add_comm, Int.emod_add_emod, show s - y + y = s by omega]
  exact Int.emod_eq_of_lt h0 h1
theorem come_bd {ps : List Tr} (l8 : ps.length ≤ 8) (day : Int) : (comeL ps day).length ≤ 8 ∧ ∀ i ∈ comeL ps day, i.natAbs < 2 ^ 300 := by
  unfold comeL
  constructor
  · rw [List.length_map]
    have := List.length_filter_le (fun k => decide (day % (ps.getD k dT).2.1 = (ps.getD k dT).2.2)) (List.range ps.length)
    rw [List.length_range] at this
    omega
  · intro i h
    obtain ⟨k, hk, rfl⟩ := List.mem_map.mp h
    have hk := List.mem_range.mp (List.mem_filter.mp hk).1
    exact Nat.lt_of_lt_of_le (show ((k : Int)).natAbs < 2 ^ 4 by omega) (Nat.pow_le_pow_right (by decide) (by decide))
theorem come_sm {ps : List Tr} (l8 : ps.length ≤ 8) (day : Int) : Sm 4000 1 (tD (comeL ps day)) := by
  obtain ⟨a, b⟩ := come_bd l8 day
  exact sm_tD b (by omega)
/-! ### days ago -/
def goL (ages ns : List Int) : List Int := ages.zipIdx.map fun p => if ns.contains (p.2 : Int) = true then 0 else p.1 + 1
theorem goL_len (ages ns : List Int) : (goL ages ns).length = ages.length := by simp [goL]
theorem f_law_go (hi : Int) (gs ages ns : List Int) (hl : ages.length = gs.length) (h5 : gs.length ≤ 5000) (ha : ((goL ages ns).zip gs).all (fun p => decide (p.1 < p.2)) = true) :
    F_law_go [.d (planD hi gs), .d (gD ages), .d (gD ns)] = .ret (.d (gD (goL ages ns))) := by
  have lg := goL_len ages ns
  have e1 : vLc (iEnT' (vVar 1)) (g2 (gN 4) (gN 5)) tY (vIf (tV (vInI false (vVar 4) (vVar 2))) (vC (.int 0)) (vInt (fun i j => i + j) (vVar 5) (vC (.int 1)))) [4, 5] [some (.d (planD hi gs)), some (.d (gD ages)), some (.d (gD ns)), none, none, none, none, none] = .ret (.d (.list ((goL ages ns).map .int))) := by
    rw [vLc_map (fun p : Int × Nat => .tuple [.int (p.2 : Nat), .int p.1]) (fun p => .int (if ns.contains (p.2 : Int) = true then 0 else p.1 + 1)) ages.zipIdx (by simp [gD, enD_map]) (by simp; omega)]
    · unfold goL
      rw [List.map_map]
      rfl
    · rintro ⟨l, i⟩ hp
      refine ⟨_, rfl, ?_⟩
      by_cases h : ns.contains (i : Int) = true <;> simp [h, gD] <;> simp at h <;> simp [h]
  have e2 : vLc (iZipTT (vVar 3) (vIxT (vVar 0) (vC (.int 1)))) (g2 (gN 5) (gN 7)) (tV (vCmp (fun i j => decide (j ≤ i)) (vVar 5) (vVar 7))) (vC (.int 1)) [5, 7] [some (.d (planD hi gs)), some (.d (gD ages)), some (.d (gD ns)), some (.d (gD (goL ages ns))), none, none, none, none] =
      .ret (.d (.list [])) := by
    rw [vLc_pure (fun p : Int × Int => .tuple [.int p.1, .int p.2]) (fun p => decide (p.2 ≤ p.1)) (fun _ => .int 1) ((goL ages ns).zip gs) (by simp [gD, planD, ix1, zipD_map]) (by rw [List.length_zip]; omega)]
    · have : ((goL ages ns).zip gs).filter (fun p => decide (p.2 ≤ p.1)) = [] := by
        refine List.filter_eq_nil_iff.mpr fun p hp => ?_
        have := of_decide_eq_true (List.all_eq_true.mp ha p hp)
        simp
        omega
      rw [this]
      rfl
    · rintro ⟨a, g⟩ hp
      refine ⟨_, rfl, ?_, fun _ => rfl⟩
      simp
  refine fnT_rt rfl rfl ?_
  have q1 : sAsg 3 (vTupOf (vLc (iEnT' (vVar 1)) (g2 (gN 4) (gN 5)) tY (vIf (tV (vInI false (vVar 4) (vVar 2))) (vC (.int 0)) (vInt (fun i j => i + j) (vVar 5) (vC (.int 1)))) [4, 5])) [some (.d (planD hi gs)), some (.d (gD ages)), some (.d (gD ns)), none, none, none, none, none] =
      .ret (.nx [some (.d (planD hi gs)), some (.d (gD ages)), some (.d (gD ns)), some (.d (gD (goL ages ns))), none, none, none, none]) := by
    refine sAsg_ret ?_
    unfold vTupOf
    rw [e1]
    rfl
  refine seq_nx q1 (seq_nx (sAsg_ret e2) (sRet_ret ?_))
  have t := tV_ret (vNeD_ret (a := vVar 6) (b := vLst aNil) (ρ := [some (.d (planD hi gs)), some (.d (gD ages)), some (.d (gD ns)), some (.d (gD (goL ages ns))), none, none, some (.d (.list [])), none]) rfl rfl (plain_ints []) (plain_ints []))
  show vIf _ _ _ [some (.d (planD hi gs)), some (.d (gD ages)), some (.d (gD ns)), some (.d (gD (goL ages ns))), none, none, some (.d (.list [])), none] = _
  unfold vIf
  rw [t, T.bind_ret]
  rfl
theorem f_law_start (hi : Int) (gs : List Int) (h1 : 1 ≤ gs.length) (h5 : gs.length ≤ 1000) : F_law_start [.d (planD hi gs)] = .ret (.d (gD (List.replicate gs.length 0))) := by
  unfold F_law_start m_law_start
  have h2 : (1 : Int) ≤ (gs.length : Int) := by omega
  have h3 : (gs.length : Int) ≤ 1000 := by omega
  have e : ∀ n : Nat, (List.replicate n [PyData.int 0]).flatten = (List.replicate n (0 : Int)).map .int := by
    intro n
    induction n with
    | zero => rfl
    | succ n ih => rw [List.replicate_succ, List.flatten_cons, ih, List.replicate_succ]; rfl
  simp [ρ0, planD, ix1, h2, h3, e, gD]
/-- one thing: how it stands ahead of a day -/
structure AgeI (t : Tr) (a : Int) (k : Int) : Prop where
  a0 : 0 ≤ a
  a1 : a < t.2.1
  w : (k - 1 - t.2.2 - a) % t.2.1 = 0 ∨ (a = k ∧ k ≤ t.2.2)
theorem age_step {t : Tr} {a k : Int} (T : TrOk t) (k0 : 0 ≤ k) (I : AgeI t a k) : AgeI t (if k % t.2.1 = t.2.2 then 0 else a + 1) (k + 1) := by
  have e1 := T.e1
  have s0 := T.s0
  have s1 := T.s1
  obtain ⟨a0, a1, w⟩ := I
  by_cases h : k % t.2.1 = t.2.2
  · rw [if_pos h]
    refine ⟨Int.le_refl _, by omega, .inl ?_⟩
    refine Int.emod_eq_zero_of_dvd ?_
    have : k + 1 - 1 - t.2.2 - 0 = t.2.1 * (k / t.2.1) := by
      have := Int.mul_ediv_add_emod k t.2.1
      omega
    rw [this]
    exact Int.dvd_mul_right _ _
  · rw [if_neg h]
    have notk : k ≠ t.2.2 := fun z => h (by rw [z]; exact Int.emod_eq_of_lt s0 s1)
    refine ⟨by omega, ?_, ?_⟩
    · by_cases q : a + 1 < t.2.1
      · exact q
      · exfalso
        have qe : a + 1 = t.2.1 := by omega
        rcases w with w | ⟨w1, w2⟩
        · obtain ⟨d, hd⟩ := Int.dvd_of_emod_eq_zero w
          refine h ?_
          have : k = t.2.2 + t.2.1 * (d + 1) := by
            rw [Int.mul_add, Int.mul_one, ← hd]
            omega
          rw [this, Int.add_mul_emod_self_left]
          exact Int.emod_eq_of_lt s0 s1
        · omega
    · rcases w with w | ⟨w1, w2⟩
      · refine .inl ?_
        rw [show k + 1 - 1 - t.2.2 - (a + 1) = k - 1 - t.2.2 - a by omega]
        exact w
      · refine .inr ⟨by omega, by omega⟩
structure AgesI (ps : List Tr) (ages : List Int) (k : Int) : Prop where
  len : ages.length = ps.length
  at_ : ∀ (i : Nat) (h : i < ps.length) (h2 : i < ages.length), AgeI ps[i] ages[i] k
theorem ages_start {ps : List Tr} (ok : ∀ t ∈ ps, TrOk t) : AgesI ps (List.replicate ps.length 0) 0 := by
  refine ⟨List.length_replicate, fun i h h2 => ?_⟩
  have T := ok ps[i] (List.getElem_mem h)
  rw [List.getElem_replicate]
  exact ⟨Int.le_refl _, by have := T.e1; omega, .inr ⟨rfl, T.s0⟩⟩
theorem goL_at (ages ns : List Int) (i : Nat) (h : i < ages.length) : (goL ages ns)[i]? = some (if ns.contains (i : Int) = true then 0 else ages[i] + 1) := by
  unfold goL
  rw [List.getElem?_map, List.getElem?_zipIdx, List.getElem?_eq_getElem h]
  show some (if ns.contains ((0 + i : Nat) : Int) = true then 0 else ages[i] + 1) = _
  rw [Nat.zero_add]
theorem ages_step {ps : List Tr} (ok : ∀ t ∈ ps, TrOk t) {ages : List Int} {k : Int} (k0 : 0 ≤ k) (I : AgesI ps ages k) : AgesI ps (goL ages (comeL ps k)) (k + 1) := by
  refine ⟨(goL_len _ _).trans I.len, fun i h h2 => ?_⟩
  have h3 : i < ages.length := by rw [I.len]; exact h
  have st := age_step (ok ps[i] (List.getElem_mem h)) k0 (I.at_ i h h3)
  have e : (goL ages (comeL ps k))[i] = if k % (ps[i]).2.1 = (ps[i]).2.2 then 0 else ages[i] + 1 := by
    have z := goL_at ages (comeL ps k) i h3
    rw [List.getElem?_eq_getElem h2] at z
    rw [Option.some.inj z]
    have m := mem_come (ps := ps) (day := k) (k := 0 + i)
    rw [Nat.zero_add] at m
    have gd : ps.getD i dT = ps[i] := by rw [List.getD_eq_getElem?_getD, List.getElem?_eq_getElem h]; rfl
    rw [gd] at m
    by_cases q : k % (ps[i]).2.1 = (ps[i]).2.2
    · rw [if_pos q, if_pos (m.mpr ⟨h, q⟩)]
    · rw [if_neg q, if_neg fun z => q (m.mp z).2]
  rw [e]
  exact st
theorem ages_all {hi : Int} {gs : List Int} {ps : List Tr} (hl : (ps.map trD).length = gs.length) (ha : (gs.zip (ps.map trD)).all (fun p => partOk hi p.1 p.2) = true) {ages : List Int} {k : Int} (I : AgesI ps ages k) : (ages.zip gs).all (fun p => decide (p.1 < p.2)) = true := by
  rw [List.all_eq_true]
  intro p hp
  obtain ⟨i, hi', e⟩ := List.mem_iff_getElem.mp hp
  rw [List.length_zip] at hi'
  rw [List.length_map] at hl
  rw [List.getElem_zip] at e
  have hip : i < ps.length := by omega
  have hia : i < ages.length := by omega
  have hig : i < gs.length := by omega
  have A := (I.at_ i hip hia).a1
  have z : (gs[i], trD ps[i]) ∈ gs.zip (ps.map trD) := by
    refine List.mem_iff_getElem.mpr ⟨i, by rw [List.length_zip, List.length_map]; omega, ?_⟩
    rw [List.getElem_zip, List.getElem_map]
  have q := List.all_eq_true.mp ha _ z
  obtain ⟨_, _, _, _, h5, _⟩ := part_tr q
  have h5 : (ps[i]).2.1 ≤ gs[i] := h5
  rw [← e]
  exact decide_eq_true (by show ages[i] < gs[i]; omega)
end K13
set_option Elab.async false
set_option linter.all false
set_option maxRecDepth 100000
set_option maxHeartbeats 4000000
namespace K13
open PySem L2 Gd PySem.ExG DC CpComb LamX RZ
set_option exponentiation.threshold 10000
theorem pow30 (ρ : Dv) : vIntC CPow (fun i j => i ^ j.toNat) (vC (.int 10)) (vC (.int 30)) ρ = .ret (.d (.int bigGap)) := by
  have h : CPow 10 30 := by decide
  show need (decide (CPow 10 30)) _ = _
  rw [decide_eq_true h]
  rfl
theorem pow9 (ρ : Dv) : vIntC CPow (fun i j => i ^ j.toNat) (vC (.int 10)) (vC (.int 9)) ρ = .ret (.d (.int 1000000000)) := by
  have h : CPow 10 9 := by decide
  show need (decide (CPow 10 9)) _ = _
  rw [decide_eq_true h]
  rfl
theorem vLst_ret {a : VA} {ρ : Dv} {xs : List DVal} {ds : List PyData} (e : a ρ = .ret xs) (h : unD xs = some ds) (hl : ds.length ≤ 5000) : vLst a ρ = .ret (.d (.list ds)) := by
  unfold vLst
  rw [e, T.bind_ret, h]
  show need (decide (ds.length ≤ 5000)) _ = _
  rw [decide_eq_true hl]
  rfl
theorem vRepL_ret {a b : VE} {ρ : Dv} {ds : List PyData} {k : Nat} (h1 : a ρ = .ret (.d (.list ds))) (h2 : b ρ = .ret (.d (.int k))) (hk : k ≤ 1000) (hl : ds.length * k ≤ 5000) : vRepL a b ρ = .ret (.d (.list (List.replicate k ds).flatten)) := by
  unfold vRepL
  rw [h1, T.bind_ret, asL_0, h2, T.bind_ret, asI_0, Int.toNat_natCast, decide_eq_true (show (0 : Int) ≤ k by omega), decide_eq_true (show (k : Int) ≤ 1000 by omega), decide_eq_true hl]
  rfl
theorem vInt_ret {g : Int → Int → Int} {a b : VE} {ρ : Dv} {i j : Int} (h1 : a ρ = .ret (.d (.int i))) (h2 : b ρ = .ret (.d (.int j))) : DC.vInt g a b ρ = .ret (.d (.int (g i j))) := by
  unfold DC.vInt
  rw [h1, T.bind_ret, asI_0, h2, T.bind_ret, asI_0]
theorem vIntC_ret {c : Int → Int → Prop} [∀ i j, Decidable (c i j)] {g : Int → Int → Int} {a b : VE} {ρ : Dv} {i j : Int} (h1 : a ρ = .ret (.d (.int i))) (h2 : b ρ = .ret (.d (.int j))) (h : c i j) : vIntC c g a b ρ = .ret (.d (.int (g i j))) := by
  unfold vIntC
  rw [h1, T.bind_ret, asI_0, h2, T.bind_ret, asI_0, decide_eq_true h, need_t]
theorem vIntI_ret {a : VE} {ρ : Dv} {i : Int} (h1 : a ρ = .ret (.d (.int i))) : vIntI a ρ = .ret (.d (.int i)) := by
  unfold vIntI
  rw [h1, T.bind_ret, asI_0]
theorem vInI_ret {neg : Bool} {a b : VE} {ρ : Dv} {i : Int} {ns : List Int} (h1 : a ρ = .ret (.d (.int i))) (h2 : b ρ = .ret (.d (tD ns))) : vInI neg a b ρ = .ret (.d (.bool (if neg = true then !ns.contains i else ns.contains i))) := by
  unfold vInI
  rw [h1, T.bind_ret, asI_0, h2, T.bind_ret]
  unfold tD
  rw [asQ_1, asIs_map]
theorem vNe_rep {a b : VE} {ρ : Dv} {d : PyData} (h1 : a ρ = .ret (.d d)) (h2 : b ρ = .ret (.d d)) (h : smR d = true) : tV (vNe (vRepr a) (vRepr b)) ρ = .ret false := tV_ret (vNe_str (vRepr_ret h1 h) (vRepr_ret h2 h))
theorem forGo_det {tg : VG} {b : VS} : ∀ (xs : List PyData) (I : Dv → Prop), (∀ (i : Nat) (x : PyData) (ρ : Dv), xs[i]? = some x → I ρ → ∃ ρ1 ρ2, tg x ρ = some ρ1 ∧ b ρ1 = .ret (.nx ρ2) ∧ I ρ2) → ∀ ρ, I ρ → ∃ ρ', I ρ' ∧ forGo tg b xs ρ = .ret (.nx ρ')
  | [], I, _, ρ, h => ⟨ρ, h, rfl⟩
  | x :: xs, I, st, ρ, h => by
    obtain ⟨ρ1, ρ2, e1, e2, h2⟩ := st 0 x ρ rfl h
    obtain ⟨ρ', h', e'⟩ := forGo_det xs I (fun i y σ hy hσ => st (i + 1) y σ hy hσ) ρ2 h2
    refine ⟨ρ', h', ?_⟩
    rw [forGo_cons, e1]
    dsimp only
    rw [e2, T.bind_ret]
    exact e'
/-! ### the days -/
theorem mul9 {i : Int} (h0 : 0 ≤ i) (h1 : i < 1000000000) : CMulW i 100000000000000000000 := by
  by_cases h : i = 0
  · subst h
    decide
  · exact mulW (by omega) (by have : (1000000000 : Int) ≤ bigGap := by decide +kernel
                              omega) (by decide) (by decide +kernel)
def SmD (d : PyData) : Prop := Sm 4000 3 d
theorem sm_i {i : Int} (h : i.natAbs < 2 ^ 300) : Sm 4000 3 (.int i) := (sm_int3 h).up (by decide) (by decide)
theorem e300 {x : Int} (h0 : 0 ≤ x) (h1 : x ≤ 2 * bigGap) : x.natAbs < 2 ^ 300 := by
  have hb : 2 * bigGap < 2 ^ 101 := by decide +kernel
  have p : (2 : Nat) ^ 101 < 2 ^ 300 := Nat.pow_lt_pow_right (by decide) (by decide)
  have q : ((2 : Nat) ^ 101 : Nat) = ((2 : Int) ^ 101).natAbs := by decide +kernel
  refine Nat.lt_trans (m := 2 ^ 101) ?_ p
  omega
def nextB : VS := (sSeq (sAsg 5 (vInt (fun i j => i + j) (vVar 4) (vIntC (fun _ j => 0 < j) (fun i j => i % j) (vIntI (vInt (fun i j => i - j) (vIxT (vIxT (vVar 2) (vVar 7)) (vC (.int 2))) (vVar 4))) (vIxT (vIxT (vVar 2) (vVar 7)) (vC (.int 1))))))
  (sIf (tO (tV (vNe (vRepr (vRepL (vLst (aCons (vCall F_next_by (aCons (vVar 1) (aCons (vVar 2) (aCons (vVar 7) (aCons (vVar 4) aNil))))) aNil)) (vC (.int 2)))) (vRepr (vRepL (vLst (aCons (vVar 5) aNil)) (vC (.int 2)))))) (tV (vInI true (vVar 7) (vCall F_law_day (aCons (vVar 2) (aCons (vVar 5) aNil)))))) (sRet (vC (.bool false))) sNext))
def dayB : VS := (sSeq (sAsg 5 (vCall F_law_day (aCons (vVar 2) (aCons (vVar 4) aNil))))
  (sSeq (sAsg 6 (vLst (aCons (vCall F_day_by (aCons (vVar 1) (aCons (vVar 2) (aCons (vVar 4) aNil)))) (aCons (vCall F_day_by (aCons (vVar 1) (aCons (vVar 2) (aCons (vVar 4) aNil)))) aNil))))
  (sSeq (sIf (tO (tV (vNe (vRepr (vVar 6)) (vRepr (vLst (aCons (vVar 5) (aCons (vVar 5) aNil)))))) (tV (vCmp (fun i j => decide (j < i)) (vLen (vVar 5)) (vIxT (vVar 1) (vC (.int 0)))))) (sRet (vC (.bool false))) sNext)
  (sFor (iR1 (vLen (vVar 2))) (gN 7) nextB))))
def spotsA : VA := (aCons (vC (.int 0)) (aCons (vC (.int 1)) (aCons (vCall F_law_draw (aCons (vVar 0) (aCons (vC (.int 40)) aNil))) (aCons (vIntC CPow (fun i j => i ^ j.toNat) (vC (.int 10)) (vC (.int 30))) (aCons (vInt (fun i j => i - j) (vIntC CPow (fun i j => i ^ j.toNat) (vC (.int 10)) (vC (.int 30))) (vCall F_law_draw (aCons (vVar 0) (aCons (vC (.int 99)) aNil)))) (aCons (vIntC CMulW (fun i j => i * j) (vCall F_law_draw (aCons (vVar 0) (aCons (vIntC CPow (fun i j => i ^ j.toNat) (vC (.int 10)) (vC (.int 9))) aNil))) (vIntC CPow (fun i j => i ^ j.toNat) (vC (.int 10)) (vC (.int 20)))) aNil))))))
example : m_law_days_right = sSeq (sAsg 3 (vLst spotsA)) (sSeq (sFor (iL (vVar 3)) (gN 4) dayB) (sRet (vC (.bool true)))) := rfl
section
variable {hi : Int} {gs : List Int} (G : Good hi gs) {ps : List Tr} (h : partsB hi gs (.tuple (ps.map trD)) = true) (he : ∀ t ∈ ps, TrOk t) (l8 : ps.length ≤ 8) (hl : ps.length = gs.length)
include G h he l8 hl
theorem next_step (hg : ∀ t ∈ ps, t.2.1 ≤ bigGap) {y : Int} (y0 : 0 ≤ y) (y1 : y ≤ bigGap) {k : Nat} (hk : k < ps.length) (o0 o3 o5 o6 : Option DVal) :
    ∃ o5', nextB [o0, some (.d (planD hi gs)), some (.d (.tuple (ps.map trD))), o3, some (.d (.int y)), o5, o6, some (.d (.int (0 + (k : Int))))] = .ret (.nx [o0, some (.d (planD hi gs)), some (.d (.tuple (ps.map trD))), o3, some (.d (.int y)), o5', o6, some (.d (.int (0 + (k : Int))))]) := by
  rw [Int.zero_add]
  have hkt : ps[k]? = some ps[k] := List.getElem?_eq_getElem hk
  have W := he ps[k] (List.getElem_mem hk)
  have g := hg ps[k] (List.getElem_mem hk)
  have nx := next_ok G h (fun t ht => (he t ht).e1) l8 hkt hl y0 y1
  have mem : (comeL ps (y + ((ps[k]).2.2 - y) % (ps[k]).2.1)).contains (k : Int) = true := by
    refine mem_come.mpr ⟨hk, ?_⟩
    rw [List.getD_eq_getElem?_getD, hkt]
    exact next_come W.s0 W.s1
  have a1 : atI (ps.map trD) (k : Nat) = some (trD ps[k]) := atI_nat (by rw [List.getElem?_map, hkt]; rfl)
  have e1 := W.e1
  generalize ps[k] = t at W g nx mem a1 e1
  have et : 0 < t.2.1 := by omega
  generalize hz : y + (t.2.2 - y) % t.2.1 = z at nx mem
  have m0 := Int.emod_nonneg (t.2.2 - y) (show t.2.1 ≠ 0 by omega)
  have m1 := Int.emod_lt_of_pos (t.2.2 - y) et
  have z3 : z.natAbs < 2 ^ 300 := e300 (by omega) (by omega)
  refine ⟨some (.d (.int z)), ?_⟩
  have s1 : sAsg 5 (vInt (fun i j => i + j) (vVar 4) (vIntC (fun _ j => 0 < j) (fun i j => i % j) (vIntI (vInt (fun i j => i - j) (vIxT (vIxT (vVar 2) (vVar 7)) (vC (.int 2))) (vVar 4))) (vIxT (vIxT (vVar 2) (vVar 7)) (vC (.int 1))))) [o0, some (.d (planD hi gs)), some (.d (.tuple (ps.map trD))), o3, some (.d (.int y)), o5, o6, some (.d (.int (k : Int)))] =
      .ret (.nx [o0, some (.d (planD hi gs)), some (.d (.tuple (ps.map trD))), o3, some (.d (.int y)), some (.d (.int z)), o6, some (.d (.int (k : Int)))]) := by
    have x2 : vIxT (vIxT (vVar 2) (vVar 7)) (vC (.int 2)) [o0, some (.d (planD hi gs)), some (.d (.tuple (ps.map trD))), o3, some (.d (.int y)), o5, o6, some (.d (.int (k : Int)))] = .ret (.d (.int t.2.2)) := by
      simp [a1]
      rfl
    have x1 : vIxT (vIxT (vVar 2) (vVar 7)) (vC (.int 1)) [o0, some (.d (planD hi gs)), some (.d (.tuple (ps.map trD))), o3, some (.d (.int y)), o5, o6, some (.d (.int (k : Int)))] = .ret (.d (.int t.2.1)) := by
      simp [a1]
      rfl
    rw [← hz]
    exact sAsg_ret (vInt_ret (i := y) rfl (vIntC_ret (vIntI_ret (vInt_ret x2 (j := y) rfl)) x1 et))
  refine seq_nx s1 (sIf_f (tO_f (vNe_rep (d := .list [.int z, .int z]) ?_ ?_ (sm_smR (sm_two (sm_i z3) (sm_i z3) (by decide) (by decide)))) (tV_ret ?_)) rfl)
  · exact vRepL_ret (ds := [.int z]) (k := 2) (vLst_ret (aCons_ret (vCall_ret (xs := [.d (planD hi gs), .d (.tuple (ps.map trD)), .d (.int k), .d (.int y)]) rfl nx) rfl) rfl (by show 1 ≤ 5000; decide)) rfl (by decide) (by show 1 * 2 ≤ 5000; decide)
  · exact vRepL_ret (ds := [.int z]) (k := 2) (vLst_ret (xs := [.d (.int z)]) rfl rfl (by show 1 ≤ 5000; decide)) rfl (by decide) (by show 1 * 2 ≤ 5000; decide)
  · have r : vCall F_law_day (aCons (vVar 2) (aCons (vVar 5) aNil)) [o0, some (.d (planD hi gs)), some (.d (.tuple (ps.map trD))), o3, some (.d (.int y)), some (.d (.int z)), o6, some (.d (.int (k : Int)))] = .ret (.d (tD (comeL ps z))) := vCall_ret rfl (f_law_day ps (by omega) (fun t ht => (he t ht).e1) z)
    have q := vInI_ret (neg := true) (a := vVar 7) rfl r
    rw [mem] at q
    exact q
theorem day_step (K : Mk hi ps) (hg : ∀ t ∈ ps, t.2.1 ≤ bigGap) {y : Int} (y0 : 0 ≤ y) (y1 : y ≤ bigGap) (o0 o3 o5 o6 o7 : Option DVal) :
    ∃ o5' o6' o7', dayB [o0, some (.d (planD hi gs)), some (.d (.tuple (ps.map trD))), o3, some (.d (.int y)), o5, o6, o7] = .ret (.nx [o0, some (.d (planD hi gs)), some (.d (.tuple (ps.map trD))), o3, some (.d (.int y)), o5', o6', o7']) := by
  have e1 : ∀ t ∈ ps, 1 ≤ t.2.1 := fun t ht => (he t ht).e1
  have dy := day_ok G h e1 l8 y0 y1
  have sm := come_sm l8 y
  have sm2 := sm_smR (sm_two sm sm (by decide) (by decide))
  have lc := come_len K (by have := G.h1; omega) y
  generalize hc : comeL ps y = c at dy sm sm2 lc
  have ln : (ps.map trD).length = ps.length := List.length_map _
  have fy : vCall F_day_by (aCons (vVar 1) (aCons (vVar 2) (aCons (vVar 4) aNil))) [o0, some (.d (planD hi gs)), some (.d (.tuple (ps.map trD))), o3, some (.d (.int y)), some (.d (tD c)), o6, o7] = .ret (.d (tD c)) := vCall_ret rfl dy
  have r5 : vLst (aCons (vVar 5) (aCons (vVar 5) aNil)) [o0, some (.d (planD hi gs)), some (.d (.tuple (ps.map trD))), o3, some (.d (.int y)), some (.d (tD c)), some (.d (.list [tD c, tD c])), o7] = .ret (.d (.list [tD c, tD c])) := vLst_ret (xs := [.d (tD c), .d (tD c)]) rfl rfl (by show 2 ≤ 5000; decide)
  have cm : vCmp (fun i j => decide (j < i)) (vLen (vVar 5)) (vIxT (vVar 1) (vC (.int 0))) [o0, some (.d (planD hi gs)), some (.d (.tuple (ps.map trD))), o3, some (.d (.int y)), some (.d (tD c)), some (.d (.list [tD c, tD c])), o7] = .ret (.d (.bool (decide (hi < (c.length : Int))))) := by
    unfold planD tD
    simp
    rfl
  rw [decide_eq_false (by omega)] at cm
  have ch : vInt (fun i j => i + j) (vC (.int 0)) (vC (.int 0)) [] = .ret (.d (.int 0)) := rfl
  obtain ⟨ρ', ⟨o5', o7', rfl⟩, el⟩ := forGo_det (tg := gN 7) (b := nextB) (rgD 0 ps.length) (fun ρ => ∃ o5' o7', ρ = [o0, some (.d (planD hi gs)), some (.d (.tuple (ps.map trD))), o3, some (.d (.int y)), o5', some (.d (.list [tD c, tD c])), o7'])
    (fun i x ρ hx hρ => by
      obtain ⟨o5', o7', rfl⟩ := hρ
      obtain ⟨hik, rfl⟩ := rg_get hx
      obtain ⟨o5'', e⟩ := next_step G h he l8 hl hg y0 y1 hik o0 o3 o5' (some (.d (.list [tD c, tD c])))
      exact ⟨_, _, rfl, e, _, _, rfl⟩)
    [o0, some (.d (planD hi gs)), some (.d (.tuple (ps.map trD))), o3, some (.d (.int y)), some (.d (tD c)), some (.d (.list [tD c, tD c])), o7] ⟨_, _, rfl⟩
  refine ⟨o5', some (.d (.list [tD c, tD c])), o7', ?_⟩
  refine seq_nx (sAsg_ret (vCall_ret rfl (f_law_day ps (by omega) e1 y))) ?_
  rw [hc]
  refine seq_nx (sAsg_ret (vLst_ret (aCons_ret fy (aCons_ret fy rfl)) rfl (by show 2 ≤ 5000; decide))) ?_
  refine seq_nx (sIf_f (tO_f (vNe_rep rfl r5 sm2) (tV_ret cm)) rfl) (sFor_ret (xs := rgD 0 ps.length) (iR1_nat _ _ _ _ (by omega) ?_) el)
  show (asQ (DVal.d (.tuple (ps.map trD))) fun ds => T.ret (DVal.d (PyData.int ds.length))) = _
  rw [← ln]
  rfl
theorem wp_days_right (K : Mk hi ps) (hg : ∀ t ∈ ps, t.2.1 ≤ bigGap) {M : V → Prop} {X : XN} {n : Nat} {m : V} (hm : M m) (hn : n ≤ 40000) :
    (F_law_days_right [.h m, .d (planD hi gs), .d (.tuple (ps.map trD))]).Wp M n (fun n' x => n' ≤ n + 3 ∧ x = .d (.bool true)) X := by
  unfold F_law_days_right
  refine wp_fnT rfl rfl ?_
  show T.Wp M (sSeq (sAsg 3 (vLst spotsA)) (sSeq (sFor (iL (vVar 3)) (gN 4) dayB) (sRet (vC (.bool true)))) [some (.h m), some (.d (planD hi gs)), some (.d (.tuple (ps.map trD))), none, none, none, none, none]) _ _ _
  refine wp_seq (wp_asgD (wp_lst ?_))
  unfold spotsA
  refine wp_cons (wp_vC (wp_cons (wp_vC (wp_cons (wp_call (xs := [.h m, .d (.int 40)]) rfl (wp_draw hm (by omega) (by decide) (by decide) fun a a0 a1 => ?_))))))
  refine wp_cons (wp_of_ret (pow30 _) ?_)
  refine wp_cons (wp_int (wp_of_ret (pow30 _) ⟨bigGap, rfl, wp_call (xs := [.h m, .d (.int 99)]) rfl (wp_draw hm (by omega) (by decide) (by decide) fun b b0 b1 => ⟨b, rfl, ?_⟩)⟩))
  refine wp_cons (wp_intC (wp_vcall (wp_cons (wp_var rfl (wp_cons (wp_of_ret (pow9 _) (wp_nil (wp_draw hm (by omega) (by decide) (by decide) fun c c0 c1 => ⟨c, rfl, wp_of_ret (pow20 _) ⟨_, rfl, mul9 c0 c1, ?_⟩⟩))))))))
  have g1 : (100 : Int) ≤ bigGap := by decide +kernel
  have g2 : (1000000000 : Int) * 100000000000000000000 ≤ bigGap := by decide +kernel
  refine wp_nil ⟨[.int 0, .int 1, .int a, .int bigGap, .int (bigGap - b), .int (c * 100000000000000000000)], rfl, by show 6 ≤ 5000; decide, ?_⟩
  have hs : ∀ d ∈ [PyData.int 0, .int 1, .int a, .int bigGap, .int (bigGap - b), .int (c * 100000000000000000000)], ∃ y : Int, d = .int y ∧ 0 ≤ y ∧ y ≤ bigGap := by
    intro d hd
    simp only [List.mem_cons, List.not_mem_nil, or_false] at hd
    rcases hd with rfl | rfl | rfl | rfl | rfl | rfl <;> exact ⟨_, rfl, by omega, by omega⟩
  generalize [PyData.int 0, .int 1, .int a, .int bigGap, .int (bigGap - b), .int (c * 100000000000000000000)] = S at hs
  obtain ⟨ρ', ⟨o4, o5, o6, o7, rfl⟩, el⟩ := forGo_det (tg := gN 4) (b := dayB) S (fun ρ => ∃ o4 o5 o6 o7, ρ = [some (.h m), some (.d (planD hi gs)), some (.d (.tuple (ps.map trD))), some (.d (.list S)), o4, o5, o6, o7])
    (fun i x ρ hx hρ => by
      obtain ⟨o4, o5, o6, o7, rfl⟩ := hρ
      obtain ⟨y, rfl, y0, y1⟩ := hs x (List.mem_of_getElem? hx)
      obtain ⟨o5', o6', o7', e⟩ := day_step G h he l8 hl K hg y0 y1 (some (.h m)) (some (.d (.list S))) o5 o6 o7
      exact ⟨_, _, rfl, e, _, _, _, _, rfl⟩)
    [some (.h m), some (.d (planD hi gs)), some (.d (.tuple (ps.map trD))), some (.d (.list S)), none, none, none, none] ⟨_, _, _, _, rfl⟩
  refine ⟨_, rfl, ?_⟩
  show T.Wp M (sSeq (sFor (iL (vVar 3)) (gN 4) dayB) (sRet (vC (.bool true))) [some (.h m), some (.d (planD hi gs)), some (.d (.tuple (ps.map trD))), some (.d (.list S)), none, none, none, none]) _ _ _
  refine wp_seq_nx (sFor_ret (xs := S) (iL_ret rfl) el) ?_
  exact wp_of_ret (x := .rt (.d (.bool true))) rfl ⟨by omega, rfl⟩
end
end K13
set_option Elab.async false
set_option linter.all false
set_option maxRecDepth 100000
set_option maxHeartbeats 4000000
namespace K13
open PySem L2 Gd PySem.ExG DC CpComb LamX RZ
set_option exponentiation.threshold 10000
theorem forGo_at {tg : VG} {b : VS} : ∀ (xs : List PyData) (j : Nat) (I : Nat → Dv → Prop), (∀ (i : Nat) (x : PyData) (ρ : Dv), xs[i]? = some x → I (j + i) ρ → ∃ ρ1 ρ2, tg x ρ = some ρ1 ∧ b ρ1 = .ret (.nx ρ2) ∧ I (j + i + 1) ρ2) → ∀ ρ, I j ρ → ∃ ρ', I (j + xs.length) ρ' ∧ forGo tg b xs ρ = .ret (.nx ρ')
  | [], j, I, _, ρ, h => ⟨ρ, h, rfl⟩
  | x :: xs, j, I, st, ρ, h => by
    obtain ⟨ρ1, ρ2, e1, e2, h2⟩ := st 0 x ρ rfl h
    obtain ⟨ρ', h', e'⟩ := forGo_at xs (j + 1) I (fun i y σ hy hσ => by
      rw [Nat.add_right_comm] at hσ
      rw [Nat.add_right_comm j 1 i]
      exact st (i + 1) y σ hy hσ) ρ2 h2
    refine ⟨ρ', ?_, ?_⟩
    · rw [List.length_cons, ← Nat.add_assoc, Nat.add_right_comm]
      exact h'
    · rw [forGo_cons, e1]
      dsimp only
      rw [e2, T.bind_ret]
      exact e'
def goB : VS := (sSeq (sAsg 6 (vCall F_law_go (aCons (vVar 1) (aCons (vVar 6) (aCons (vVar 7) aNil)))))
  (sIf (tV (vIsN (vVar 6) (vC .none))) (sRet (vC (.bool false))) sNext))
def rowR : VS := (sSeq (sAsg 4 (vTupOf (vLc (iR1 (vVar 3)) (gN 5) tY (vCall F_law_day (aCons (vVar 2) (aCons (vVar 5) aNil))) [5])))
  (sSeq (sIf (tV (vNe (vRepr (vLst (aCons (vCall F_row_by (aCons (vVar 1) (aCons (vVar 2) (aCons (vVar 3) aNil)))) (aCons (vCall F_row_by (aCons (vVar 1) (aCons (vVar 2) (aCons (vVar 3) aNil)))) aNil)))) (vRepr (vLst (aCons (vVar 4) (aCons (vVar 4) aNil)))))) (sRet (vC (.bool false))) sNext)
  (sSeq (sAsg 6 (vCall F_law_start (aCons (vVar 1) aNil)))
  (sSeq (sFor (iT (vVar 4)) (gN 7) goB)
  (sRet (vC (.bool true)))))))
section
variable {hi : Int} {gs : List Int} (G : Good hi gs) {ps : List Tr} (h : partsB hi gs (.tuple (ps.map trD)) = true) (K : Mk hi ps) (hl : ps.length = gs.length) (ha : (gs.zip (ps.map trD)).all (fun p => partOk hi p.1 p.2) = true)
include G h K hl ha
theorem go_step {ages : List Int} {k : Nat} (I : AgesI ps ages (k : Int)) (o0 o3 o4 o5 : Option DVal) :
    goB [o0, some (.d (planD hi gs)), some (.d (.tuple (ps.map trD))), o3, o4, o5, some (.d (gD ages)), some (.d (tD (comeL ps (0 + (k : Int)))))] = .ret (.nx [o0, some (.d (planD hi gs)), some (.d (.tuple (ps.map trD))), o3, o4, o5, some (.d (gD (goL ages (comeL ps (k : Int))))), some (.d (tD (comeL ps (0 + (k : Int)))))]) := by
  rw [Int.zero_add]
  have st := ages_step K.ok (by omega) I
  have al := ages_all (by rw [List.length_map]; exact hl) ha st
  have g := f_law_go hi gs ages (comeL ps (k : Int)) (I.len.trans hl) (by rw [← hl]; have := K.l8; omega) al
  refine seq_nx (sAsg_ret (vCall_ret (xs := [.d (planD hi gs), .d (gD ages), .d (gD (comeL ps (k : Int)))]) rfl g)) (sIf_f (tV_ret ?_) rfl)
  rfl
theorem row_right {k : Nat} (hk : k ≤ 60) (o0 o4 o5 o6 o7 : Option DVal) :
    rowR [o0, some (.d (planD hi gs)), some (.d (.tuple (ps.map trD))), some (.d (.int k)), o4, o5, o6, o7] = .ret (.rt (.d (.bool true))) := by
  have l8 := K.l8
  have e1 : ∀ t ∈ ps, 1 ≤ t.2.1 := fun t ht => (K.ok t ht).e1
  have rw1 := row_ok G h e1 l8 (k := k) (by omega)
  have e : vTupOf (vLc (iR1 (vVar 3)) (gN 5) tY (vCall F_law_day (aCons (vVar 2) (aCons (vVar 5) aNil))) [5]) [o0, some (.d (planD hi gs)), some (.d (.tuple (ps.map trD))), some (.d (.int k)), o4, o5, o6, o7] = .ret (.d (.tuple ((List.range k).map fun (i : Nat) => tD (comeL ps (0 + (i : Int)))))) := by
    have e : vLc (iR1 (vVar 3)) (gN 5) tY (vCall F_law_day (aCons (vVar 2) (aCons (vVar 5) aNil))) [5] [o0, some (.d (planD hi gs)), some (.d (.tuple (ps.map trD))), some (.d (.int k)), o4, o5, o6, o7] = .ret (.d (.list ((List.range k).map fun (i : Nat) => tD (comeL ps (0 + (i : Int)))))) := by
      refine vLc_map (fun (i : Nat) => PyData.int (0 + (i : Int))) (fun (i : Nat) => tD (comeL ps (0 + (i : Int)))) (List.range k) (iR1_nat _ _ _ _ (by omega) rfl) (by rw [List.length_range]; omega) fun i hi => ⟨_, rfl, ?_⟩
      exact vCall_ret rfl (f_law_day ps (by omega) e1 _)
    unfold vTupOf
    rw [e]
    rfl
  have sm : Sm 2000000 2 (.tuple ((List.range k).map fun (i : Nat) => tD (comeL ps (0 + (i : Int))))) := by
    refine sm_tupl (n := 4000) (k := 1) (fun d hd => ?_) ?_
    · obtain ⟨i, hi', rfl⟩ := List.mem_map.mp hd
      exact come_sm l8 _
    · rw [List.length_map, List.length_range]
      omega
  have sm2 := sm_smR (sm_two sm sm (by decide) (by decide))
  have xi : ∀ (i : Nat) (x : PyData), ((List.range k).map fun (i : Nat) => tD (comeL ps (0 + (i : Int))))[i]? = some x → x = tD (comeL ps (0 + (i : Int))) := by
    intro i x hx
    rw [List.getElem?_map] at hx
    obtain ⟨j, hj, rfl⟩ := Option.map_eq_some_iff.mp hx
    obtain ⟨h1, rfl⟩ := List.getElem?_eq_some_iff.mp hj
    rw [List.getElem_range]
  generalize ((List.range k).map fun (i : Nat) => tD (comeL ps (0 + (i : Int)))) = R at rw1 e sm2 xi
  obtain ⟨ρ', ⟨ages, o7', I, rfl⟩, el⟩ := forGo_at (tg := gN 7) (b := goB) R 0 (fun i ρ => ∃ ages o7', AgesI ps ages (i : Int) ∧ ρ = [o0, some (.d (planD hi gs)), some (.d (.tuple (ps.map trD))), some (.d (.int k)), some (.d (.tuple R)), o5, some (.d (gD ages)), o7'])
    (fun i x ρ hx hρ => by
      obtain ⟨ages, o7', I, rfl⟩ := hρ
      rw [Nat.zero_add] at I ⊢
      have := xi i x hx
      subst this
      exact ⟨_, _, rfl, go_step G h K hl ha I o0 (some (.d (.int k))) (some (.d (.tuple R))) o5, _, _, ages_step K.ok (by omega) I, rfl⟩)
    [o0, some (.d (planD hi gs)), some (.d (.tuple (ps.map trD))), some (.d (.int k)), some (.d (.tuple R)), o5, some (.d (gD (List.replicate ps.length 0))), o7] ⟨_, _, ages_start K.ok, rfl⟩
  have fy : vCall F_row_by (aCons (vVar 1) (aCons (vVar 2) (aCons (vVar 3) aNil))) [o0, some (.d (planD hi gs)), some (.d (.tuple (ps.map trD))), some (.d (.int k)), some (.d (.tuple R)), o5, o6, o7] = .ret (.d (.tuple R)) := vCall_ret rfl rw1
  have st := f_law_start hi gs G.l1 (by have := G.l8; omega)
  rw [← hl] at st
  refine seq_nx (sAsg_ret e) (seq_nx (sIf_f (vNe_rep (d := .list [.tuple R, .tuple R]) (vLst_ret (aCons_ret fy (aCons_ret fy rfl)) rfl (by show 2 ≤ 5000; decide)) (vLst_ret (xs := [.d (.tuple R), .d (.tuple R)]) rfl rfl (by show 2 ≤ 5000; decide)) sm2) rfl) ?_)
  exact seq_nx (sAsg_ret (vCall_ret rfl st)) (seq_nx (sFor_ret (iT_ret rfl) el) rfl)
theorem wp_row_right {M : V → Prop} {X : XN} {n : Nat} {m : V} (hm : M m) (hn : n ≤ 40000) :
    (F_law_row_right [.h m, .d (planD hi gs), .d (.tuple (ps.map trD))]).Wp M n (fun n' x => n' ≤ n + 1 ∧ x = .d (.bool true)) X := by
  unfold F_law_row_right
  refine wp_fnT rfl rfl ?_
  show T.Wp M (sSeq (sAsg 3 (vCall F_law_of (aCons (vVar 0) (aCons (vLst (aCons (vC (.int 0)) (aCons (vC (.int 1)) (aCons (vC (.int 9)) (aCons (vC (.int 60)) aNil))))) aNil)))) rowR [some (.h m), some (.d (planD hi gs)), some (.d (.tuple (ps.map trD))), none, none, none, none, none]) _ _ _
  refine wp_seq (wp_asgD (wp_call (xs := [.h m, .d (.list [.int 0, .int 1, .int 9, .int 60])]) rfl (wp_of hm (by omega) (by show 0 < 4; decide) (by show 4 ≤ 5000; decide) fun d hd => ?_)))
  have hd' : ∃ k : Nat, d = .int k ∧ k ≤ 60 := by
    simp only [List.mem_cons, List.not_mem_nil, or_false] at hd
    rcases hd with rfl | rfl | rfl | rfl
    · exact ⟨0, rfl, by decide⟩
    · exact ⟨1, rfl, by decide⟩
    · exact ⟨9, rfl, by decide⟩
    · exact ⟨60, rfl, by decide⟩
  obtain ⟨k, rfl, hk⟩ := hd'
  refine ⟨_, rfl, ?_⟩
  exact wp_of_ret (row_right G h K hl ha hk _ _ _ _ _) ⟨by omega, rfl⟩
end
end K13
set_option Elab.async false
set_option linter.all false
set_option maxRecDepth 100000
set_option maxHeartbeats 4000000
namespace K13
open PySem L2 Gd PySem.ExG DC CpComb LamX RZ
set_option exponentiation.threshold 10000
/-! ### what is refused -/
def tg (t : Str) (x : PyData) : PyData := .tuple [.str t, x]
theorem vCat_ret {a b : VE} {ρ : Dv} {ds es : List PyData} (h1 : a ρ = .ret (.d (.list ds))) (h2 : b ρ = .ret (.d (.list es))) (hl : ds.length + es.length ≤ 5000) : vCat a b ρ = .ret (.d (.list (ds ++ es))) := by
  unfold vCat
  rw [h1, T.bind_ret, asL_0, h2, T.bind_ret, asL_0, decide_eq_true hl]
  rfl
theorem vCatT_ret {a b : VE} {ρ : Dv} {ds es : List PyData} (h1 : a ρ = .ret (.d (.tuple ds))) (h2 : b ρ = .ret (.d (.tuple es))) (hl : ds.length + es.length ≤ 5000) : vCatT a b ρ = .ret (.d (.tuple (ds ++ es))) := by
  unfold vCatT
  rw [h1, T.bind_ret, asT_0, h2, T.bind_ret, asT_0, decide_eq_true hl]
  rfl
theorem sm_tg {t : Str} {x : PyData} (ht : Sm 100 0 (.str t)) (h : Sm 100000 8 x) : Sm 200007 9 (tg t x) :=
  (sm_tup (n := 100000) (k := 8) ⟨fun d hd => by
    simp only [List.mem_cons, List.not_mem_nil, or_false] at hd
    rcases hd with rfl | rfl
    · exact ht.up (by decide) (by decide)
    · exact h⟩).up (by show 2 * (100000 + 2) + 3 ≤ 200007; decide) (by decide)
theorem sm_tgs {t : Str} {x : PyData} (ht : Sm 100 0 (.str t)) (h : Sm 100000 8 x) {L : List PyData} (hL : ∀ d ∈ L, d = tg t x) (l : L.length ≤ 3) : smR (.list L) = true :=
  sm_smR ((sm_lst (n := 200007) (k := 9) ⟨fun d hd => by rw [hL d hd]; exact sm_tg ht h⟩).up (Nat.le_trans (Nat.add_le_add_right (Nat.mul_le_mul_right _ l) _) (by decide)) (by decide))
theorem all2 {t : Str} {x : PyData} : ∀ d ∈ [tg t x, tg t x], d = tg t x := by
  intro d hd
  simp only [List.mem_cons, List.not_mem_nil, or_false, or_self] at hd
  exact hd
theorem all3 {t : Str} {x : PyData} : ∀ d ∈ [tg t x, tg t x, tg t x], d = tg t x := by
  intro d hd
  simp only [List.mem_cons, List.not_mem_nil, or_false, or_self] at hd
  exact hd
theorem sPlan : Sm 100 0 (.str "plan") := sm_str (by decide +kernel)
theorem sParts : Sm 100 0 (.str "parts") := sm_str (by decide +kernel)
theorem sNumber : Sm 100 0 (.str "number") := sm_str (by decide +kernel)
def l1B : VS := (sSeq (sAsg 4 (vLst (aCons (vSaid tagS (vCallS F_day_by (aCons (vVar 2) (aCons (vC .none) (aCons (vC .none) aNil))))) (aCons (vSaid tagS (vCallS F_next_by (aCons (vVar 2) (aCons (vC .none) (aCons (vC .none) (aCons (vC .none) aNil)))))) aNil))))
  (sIf (tV (vNeD (vCat (vVar 4) (vLst (aCons (vSaid tagS (vCallS F_row_by (aCons (vVar 2) (aCons (vC .none) (aCons (vC .none) aNil))))) aNil))) (vRepL (vLst (aCons (vTup (aCons (vC (.str "plan")) (aCons (vVar 3) aNil))) aNil)) (vC (.int 3))))) (sRet (vC (.bool false))) sNext))
def l2B : VS := (sSeq (sAsg 4 (vLst (aCons (vSaid tagS (vCallS F_day_by (aCons (vVar 0) (aCons (vVar 2) (aCons (vC .none) aNil))))) (aCons (vSaid tagS (vCallS F_next_by (aCons (vVar 0) (aCons (vVar 2) (aCons (vC .none) (aCons (vC .none) aNil)))))) aNil))))
  (sIf (tV (vNe (vRepr (vCat (vVar 4) (vLst (aCons (vSaid tagS (vCallS F_row_by (aCons (vVar 0) (aCons (vVar 2) (aCons (vC .none) aNil))))) aNil)))) (vRepr (vRepL (vLst (aCons (vTup (aCons (vC (.str "parts")) (aCons (vVar 2) aNil))) aNil)) (vC (.int 3)))))) (sRet (vC (.bool false))) sNext))
def l3B : VS := (sSeq (sAsg 4 (vLst (aCons (vSaid tagS (vCallS F_day_by (aCons (vVar 0) (aCons (vVar 1) (aCons (vVar 2) aNil))))) (aCons (vSaid tagS (vCallS F_next_by (aCons (vVar 0) (aCons (vVar 1) (aCons (vC (.int 0)) (aCons (vVar 2) aNil)))))) aNil))))
  (sIf (tV (vNe (vRepr (vVar 4)) (vRepr (vRepL (vLst (aCons (vTup (aCons (vC (.str "number")) (aCons (vVar 2) aNil))) aNil)) (vC (.int 2)))))) (sRet (vC (.bool false))) sNext))
def l4B : VS := (sIf (tV (vNe (vRepr (vSaid tagS (vCallS F_next_by (aCons (vVar 0) (aCons (vVar 1) (aCons (vVar 2) (aCons (vC .none) aNil))))))) (vRepr (vTup (aCons (vC (.str "number")) (aCons (vVar 2) aNil)))))) (sRet (vC (.bool false))) sNext)
def l5B : VS := (sIf (tV (vNe (vRepr (vSaid tagS (vCallS F_row_by (aCons (vVar 0) (aCons (vVar 1) (aCons (vVar 2) aNil)))))) (vRepr (vTup (aCons (vC (.str "number")) (aCons (vVar 2) aNil)))))) (sRet (vC (.bool false))) sNext)
def it1 : VI := (iT (vTup (aCons (vTup (aCons (vC .none) (aCons (vTup aNil) aNil))) (aCons (vTup (aCons (vTup (aCons (vC (.int 4)) (aCons (vTup (aCons (vC (.int 2)) aNil)) aNil))) (aCons (vTup (aCons (vC (.int 0)) aNil)) aNil))) (aCons (vTup (aCons (vTup (aCons (vC (.int 1)) (aCons (vTup (aCons (vC (.int 0)) aNil)) aNil))) (aCons (vTup (aCons (vC (.int 1)) (aCons (vC (.int 0)) aNil))) aNil))) aNil)))))
def it2 : VI := (iT (vTup (aCons (vC .none) (aCons (vTup aNil) (aCons (vListOf (vVar 1)) (aCons (vSlT (vVar 1) oNone (oSome (vUn (fun i => -i) (vC (.int 1))))) (aCons (vCatT (vVar 1) (vVar 1)) (aCons (vCatT (vSlT (vVar 1) oNone (oSome (vUn (fun i => -i) (vC (.int 1))))) (vTup (aCons (vC .none) aNil))) (aCons vDNew (aCons (vC (.str "parts")) aNil))))))))))
def it3 : VI := (iT (vTup (aCons (vC .none) (aCons (vInt (fun i j => i - j) (vC (.int 0)) (vC (.int 1))) (aCons (vInt (fun i j => i + j) (vIntC CPow (fun i j => i ^ j.toNat) (vC (.int 10)) (vC (.int 30))) (vC (.int 1))) (aCons (vC (.bool true)) (aCons (vC (.str "1")) (aCons (vTup (aCons (vC (.int 1)) aNil)) aNil))))))))
def it4 : VI := (iT (vTup (aCons (vC .none) (aCons (vInt (fun i j => i - j) (vC (.int 0)) (vC (.int 1))) (aCons (vLen (vVar 1)) (aCons (vC (.bool true)) (aCons (vC (.str "0")) aNil)))))))
def it5 : VI := (iT (vTup (aCons (vC .none) (aCons (vInt (fun i j => i - j) (vC (.int 0)) (vC (.int 1))) (aCons (vC (.int 1001)) (aCons (vC (.bool true)) (aCons (vC (.str "1")) (aCons (vTup (aCons (vC (.int 1)) aNil)) aNil))))))))
theorem ref_eq : m_law_refused_right = sSeq (sFor it1 (g2 (gN 2) (gN 3)) l1B) (sSeq (sFor it2 (gN 2) l2B) (sSeq (sFor it3 (gN 2) l3B) (sSeq (sFor it4 (gN 2) l4B) (sSeq (sFor it5 (gN 2) l5B) (sRet (vC (.bool true))))))) := rfl
theorem loop {gt : VG} {b : VS} {it : VI} {xs : List PyData} {p s : Option DVal} (ei : ∀ o2 o3 o4, it [p, s, o2, o3, o4] = .ret xs)
    (st : ∀ x ∈ xs, ∀ o2 o3 o4, ∃ ρ1 o2' o3' o4', gt x [p, s, o2, o3, o4] = some ρ1 ∧ b ρ1 = .ret (.nx [p, s, o2', o3', o4'])) (o2 o3 o4 : Option DVal) : ∃ o2' o3' o4', sFor it gt b [p, s, o2, o3, o4] = .ret (.nx [p, s, o2', o3', o4']) := by
  obtain ⟨ρ', ⟨a, c, d, rfl⟩, e⟩ := forGo_det (tg := gt) (b := b) xs (fun ρ => ∃ o2 o3 o4, ρ = [p, s, o2, o3, o4]) (fun i x ρ hx hρ => by
    obtain ⟨o2, o3, o4, rfl⟩ := hρ
    obtain ⟨ρ1, a, c, d, e1, e2⟩ := st x (List.mem_of_getElem? hx) o2 o3 o4
    exact ⟨ρ1, _, e1, e2, a, c, d, rfl⟩) [p, s, o2, o3, o4] ⟨_, _, _, rfl⟩
  exact ⟨a, c, d, sFor_ret (ei o2 o3 o4) e⟩
theorem tup3 {p s o3 o4 : Option DVal} {t : Str} {x : PyData} : vRepL (vLst (aCons (vTup (aCons (vC (.str t)) (aCons (vVar 2) aNil))) aNil)) (vC (.int 3)) [p, s, some (.d x), o3, o4] = .ret (.d (.list [tg t x, tg t x, tg t x])) :=
  vRepL_ret (ds := [tg t x]) (k := 3) (vLst_ret (aCons_ret (vTup_ret (xs := [.d (.str t), .d x]) (ds := [.str t, x]) rfl rfl (by show 2 ≤ 5000; decide)) rfl) rfl (by show 1 ≤ 5000; decide)) rfl (by decide) (by show 1 * 3 ≤ 5000; decide)
theorem tup2 {p s o3 o4 : Option DVal} {t : Str} {x : PyData} : vRepL (vLst (aCons (vTup (aCons (vC (.str t)) (aCons (vVar 2) aNil))) aNil)) (vC (.int 2)) [p, s, some (.d x), o3, o4] = .ret (.d (.list [tg t x, tg t x])) :=
  vRepL_ret (ds := [tg t x]) (k := 2) (vLst_ret (aCons_ret (vTup_ret (xs := [.d (.str t), .d x]) (ds := [.str t, x]) rfl rfl (by show 2 ≤ 5000; decide)) rfl) rfl (by show 1 ≤ 5000; decide)) rfl (by decide) (by show 1 * 2 ≤ 5000; decide)
theorem tup1 {p s o3 o4 : Option DVal} {t : Str} {x : PyData} : vTup (aCons (vC (.str t)) (aCons (vVar 2) aNil)) [p, s, some (.d x), o3, o4] = .ret (.d (tg t x)) :=
  vTup_ret (xs := [.d (.str t), .d x]) (ds := [.str t, x]) rfl rfl (by show 2 ≤ 5000; decide)
theorem tup3' {p s o2 o4 : Option DVal} {t : Str} {x : PyData} : vRepL (vLst (aCons (vTup (aCons (vC (.str t)) (aCons (vVar 3) aNil))) aNil)) (vC (.int 3)) [p, s, o2, some (.d x), o4] = .ret (.d (.list [tg t x, tg t x, tg t x])) :=
  vRepL_ret (ds := [tg t x]) (k := 3) (vLst_ret (aCons_ret (vTup_ret (xs := [.d (.str t), .d x]) (ds := [.str t, x]) rfl rfl (by show 2 ≤ 5000; decide)) rfl) rfl (by show 1 ≤ 5000; decide)) rfl (by decide) (by show 1 * 3 ≤ 5000; decide)
theorem said2 {a b : VE} {ρ : Dv} {t : Str} {x : PyData} (h1 : a ρ = .ret (.d (tg t x))) (h2 : b ρ = .ret (.d (tg t x))) : vLst (aCons a (aCons b aNil)) ρ = .ret (.d (.list [tg t x, tg t x])) := vLst_ret (aCons_ret h1 (aCons_ret h2 rfl)) rfl (by show 2 ≤ 5000; decide)
theorem said3 {a : VE} {p s o2 o3 : Option DVal} {t : Str} {x : PyData} (h1 : a [p, s, o2, o3, some (.d (.list [tg t x, tg t x]))] = .ret (.d (tg t x))) : vCat (vVar 4) (vLst (aCons a aNil)) [p, s, o2, o3, some (.d (.list [tg t x, tg t x]))] = .ret (.d (.list [tg t x, tg t x, tg t x])) :=
  vCat_ret (ds := [tg t x, tg t x]) (es := [tg t x]) rfl (vLst_ret (aCons_ret h1 rfl) rfl (by show 1 ≤ 5000; decide)) (by show 3 ≤ 5000; decide)
theorem l1_step {d : PyData} {pl : List Int} (h : plc d = some pl) (hp : Gd.plain (.list [tg "plan" (plD pl), tg "plan" (plD pl), tg "plan" (plD pl)]) = true) (he : PyData.eqv (.list [tg "plan" (plD pl), tg "plan" (plD pl), tg "plan" (plD pl)]) (.list [tg "plan" (plD pl), tg "plan" (plD pl), tg "plan" (plD pl)]) = true) (p s o4 : Option DVal) :
    l1B [p, s, some (.d d), some (.d (plD pl)), o4] = .ret (.nx [p, s, some (.d d), some (.d (plD pl)), some (.d (.list [tg "plan" (plD pl), tg "plan" (plD pl)]))]) := by
  refine seq_nx (sAsg_ret (said2 (vSaid_exc (vCallS_ret (xs := [.d d, .d .none, .d .none]) rfl (day_plan d .none .none pl h)) rfl) (vSaid_exc (vCallS_ret (xs := [.d d, .d .none, .d .none, .d .none]) rfl (next_plan d .none .none .none pl h)) rfl))) ?_
  have ne := tV_ret (vNeD_ret (said3 (p := p) (s := s) (o2 := some (.d d)) (o3 := some (.d (plD pl))) (vSaid_exc (tag := tagS) (t := vCallS F_row_by (aCons (vVar 2) (aCons (vC .none) (aCons (vC .none) aNil)))) (vCallS_ret (xs := [.d d, .d .none, .d .none]) rfl (row_plan d .none .none pl h)) rfl)) tup3' hp hp)
  rw [he] at ne
  exact sIf_f ne rfl
section
variable {hi : Int} {gs : List Int} (G : Good hi gs)
include G
theorem l2_step {x : PyData} (hx : partsB hi gs x = false) (sx : Sm 100000 8 x) (s o3 o4 : Option DVal) :
    l2B [some (.d (planD hi gs)), s, some (.d x), o3, o4] = .ret (.nx [some (.d (planD hi gs)), s, some (.d x), o3, some (.d (.list [tg "parts" x, tg "parts" x]))]) := by
  refine seq_nx (sAsg_ret (said2 (vSaid_exc (vCallS_ret (xs := [.d (planD hi gs), .d x, .d .none]) rfl (day_parts G x .none hx)) rfl) (vSaid_exc (vCallS_ret (xs := [.d (planD hi gs), .d x, .d .none, .d .none]) rfl (next_parts G x .none .none hx)) rfl))) ?_
  exact sIf_f (vNe_rep (said3 (p := some (.d (planD hi gs))) (s := s) (o2 := some (.d x)) (o3 := o3) (vSaid_exc (vCallS_ret (xs := [.d (planD hi gs), .d x, .d .none]) rfl (row_parts G x .none hx)) rfl)) tup3 (sm_tgs sParts sx all3 (by show 3 ≤ 3; decide))) rfl
variable {ps : List Tr} (h : partsB hi gs (.tuple (ps.map trD)) = true)
include h
theorem l3_step {x : PyData} (hx : betw x 0 bigGap = false) (sx : Sm 100000 8 x) (o3 o4 : Option DVal) :
    l3B [some (.d (planD hi gs)), some (.d (.tuple (ps.map trD))), some (.d x), o3, o4] = .ret (.nx [some (.d (planD hi gs)), some (.d (.tuple (ps.map trD))), some (.d x), o3, some (.d (.list [tg "number" x, tg "number" x]))]) := by
  have b0 : betw (.int 0) 0 ((gs.length : Int) - 1) = true := by
    show (decide ((0 : Int) ≤ 0) && decide ((0 : Int) ≤ (gs.length : Int) - 1)) = true
    have := G.l1
    rw [decide_eq_true (by omega), decide_eq_true (by omega)]
    rfl
  refine seq_nx (sAsg_ret (said2 (vSaid_exc (vCallS_ret (xs := [.d (planD hi gs), .d (.tuple (ps.map trD)), .d x]) rfl (day_day G h x hx)) rfl) (vSaid_exc (vCallS_ret (xs := [.d (planD hi gs), .d (.tuple (ps.map trD)), .d (.int 0), .d x]) rfl (next_day G h (.int 0) x b0 hx)) rfl))) ?_
  exact sIf_f (vNe_rep (d := .list [tg "number" x, tg "number" x]) rfl tup2 (sm_tgs sNumber sx all2 (by show 2 ≤ 3; decide))) rfl
theorem l4_step {x : PyData} (hx : betw x 0 ((gs.length : Int) - 1) = false) (sx : Sm 100000 8 x) (o3 o4 : Option DVal) :
    l4B [some (.d (planD hi gs)), some (.d (.tuple (ps.map trD))), some (.d x), o3, o4] = .ret (.nx [some (.d (planD hi gs)), some (.d (.tuple (ps.map trD))), some (.d x), o3, o4]) :=
  sIf_f (vNe_rep (d := tg "number" x) (vSaid_exc (vCallS_ret (xs := [.d (planD hi gs), .d (.tuple (ps.map trD)), .d x, .d .none]) rfl (next_num G h x .none hx)) rfl) tup1 (sm_smR ((sm_tg sNumber sx).up (by decide) (by decide)))) rfl
theorem l5_step {x : PyData} (hx : betw x 0 1000 = false) (sx : Sm 100000 8 x) (o3 o4 : Option DVal) :
    l5B [some (.d (planD hi gs)), some (.d (.tuple (ps.map trD))), some (.d x), o3, o4] = .ret (.nx [some (.d (planD hi gs)), some (.d (.tuple (ps.map trD))), some (.d x), o3, o4]) :=
  sIf_f (vNe_rep (d := tg "number" x) (vSaid_exc (vCallS_ret (xs := [.d (planD hi gs), .d (.tuple (ps.map trD)), .d x]) rfl (row_num G h x hx)) rfl) tup1 (sm_smR ((sm_tg sNumber sx).up (by decide) (by decide)))) rfl
end
end K13
set_option Elab.async false
set_option linter.all false
set_option maxRecDepth 100000
set_option maxHeartbeats 4000000
namespace K13
open PySem L2 Gd PySem.ExG DC CpComb LamX RZ
set_option exponentiation.threshold 10000
theorem sm_up {d : PyData} (h : Sm 4000 3 d) : Sm 100000 8 d := h.up (by decide) (by decide)
theorem cut1 {ds : List PyData} (h : ds.length < 9) : (cutD ds none (some (-1))).length = ds.length - 1 := by
  have z : ∀ l : Nat, l < 9 → HT.sIx l l (some (-1)) = l - 1 := by decide
  unfold cutD
  rw [z _ h, List.length_take, List.length_drop, show HT.sIx ds.length 0 none = 0 from rfl]
  omega
theorem len_bad {hi : Int} {gs : List Int} {ds : List PyData} (h : ds.length ≠ gs.length) : partsB hi gs (.tuple ds) = false := by
  rw [partsB_tup, decide_eq_false h]
  rfl
theorem none_bad {hi : Int} {gs : List Int} {ds : List PyData} (h : PyData.none ∈ ds) : partsB hi gs (.tuple ds) = false := by
  rw [partsB_tup]
  by_cases l : ds.length = gs.length
  · by_cases a : (gs.zip ds).all (fun p => partOk hi p.1 p.2) = true
    · have e := (all_part l a).1
      rw [e] at h
      obtain ⟨t, _, q⟩ := List.mem_map.mp h
      cases q
    · rw [Bool.eq_false_iff.mpr a, Bool.false_and, Bool.and_false]
  · rw [decide_eq_false l]
    rfl
def odds (S : List PyData) : List PyData := [.none, .tuple [], .list S, .tuple (cutD S none (some (-1))), .tuple (S ++ S), .tuple (cutD S none (some (-1)) ++ [.none]), .dict [], .str "parts"]
theorem it2_ret {p o2 o3 o4 : Option DVal} {S : List PyData} (hl : S.length < 9) : it2 [p, some (.d (.tuple S)), o2, o3, o4] = .ret (odds S) := by
  have c1 := cut1 hl
  have n1 : vTup (aCons (vC .none) aNil) [p, some (.d (.tuple S)), o2, o3, o4] = .ret (.d (.tuple [.none])) := vTup_ret (xs := [.d .none]) rfl rfl (by show 1 ≤ 5000; decide)
  refine iT_ret (vTup_ret (aCons_ret (x := .d .none) rfl (aCons_ret (x := .d (.tuple [])) (vTup_ret (xs := []) rfl rfl (by show 0 ≤ 5000; decide)) (aCons_ret (x := .d (.list S)) rfl (aCons_ret (x := .d (.tuple (cutD S none (some (-1))))) rfl (aCons_ret (vCatT_ret (ds := S) (es := S) rfl rfl (by omega)) (aCons_ret (vCatT_ret (ds := cutD S none (some (-1))) (es := [.none]) rfl n1 (by rw [c1]; show _ + 1 ≤ 5000; omega)) (aCons_ret (x := .d (.dict [])) rfl (aCons_ret (x := .d (.str "parts")) rfl rfl)))))))) rfl (by show 8 ≤ 5000; decide))
theorem it1_ret {p s o2 o3 o4 : Option DVal} : it1 [p, s, o2, o3, o4] = .ret [.tuple [.none, .tuple []], .tuple [.tuple [.int 4, .tuple [.int 2]], .tuple [.int 0]], .tuple [.tuple [.int 1, .tuple [.int 0]], .tuple [.int 1, .int 0]]] := rfl
theorem it3_ret {p s o2 o3 o4 : Option DVal} : it3 [p, s, o2, o3, o4] = .ret [.none, .int (0 - 1), .int (bigGap + 1), .bool true, .str "1", .tuple [.int 1]] := by
  refine iT_ret (vTup_ret (aCons_ret (x := .d .none) rfl (aCons_ret (x := .d (.int (0 - 1))) rfl (aCons_ret (vInt_ret (i := bigGap) (j := 1) (pow30 _) rfl) (aCons_ret (x := .d (.bool true)) rfl (aCons_ret (x := .d (.str "1")) rfl (aCons_ret (x := .d (.tuple [.int 1])) rfl rfl)))))) rfl (by show 6 ≤ 5000; decide))
theorem it4_ret {p o2 o3 o4 : Option DVal} {S : List PyData} : it4 [p, some (.d (.tuple S)), o2, o3, o4] = .ret [.none, .int (0 - 1), .int S.length, .bool true, .str "0"] := rfl
theorem it5_ret {p s o2 o3 o4 : Option DVal} : it5 [p, s, o2, o3, o4] = .ret [.none, .int (0 - 1), .int 1001, .bool true, .str "1", .tuple [.int 1]] := rfl
theorem plD_ok (pl : List Int) (h : (Gd.plain (.list [tg "plan" (plD pl), tg "plan" (plD pl), tg "plan" (plD pl)]) && PyData.eqv (.list [tg "plan" (plD pl), tg "plan" (plD pl), tg "plan" (plD pl)]) (.list [tg "plan" (plD pl), tg "plan" (plD pl), tg "plan" (plD pl)])) = true) {d : PyData} (hd : plc d = some pl) (p s o4 : Option DVal) :
    l1B [p, s, some (.d d), some (.d (plD pl)), o4] = .ret (.nx [p, s, some (.d d), some (.d (plD pl)), some (.d (.list [tg "plan" (plD pl), tg "plan" (plD pl)]))]) := by
  rw [Bool.and_eq_true] at h
  exact l1_step hd h.1 h.2 p s o4
section
variable {hi : Int} {gs : List Int} (G : Good hi gs) {ps : List Tr} (h : partsB hi gs (.tuple (ps.map trD)) = true) (K : Mk hi ps) (hl : ps.length = gs.length)
include G h K hl
theorem sheet_sm : ∀ d ∈ ps.map trD, Sm 4000 1 d := by
  intro d hd
  obtain ⟨t, ht, rfl⟩ := List.mem_map.mp hd
  have W := K.ok t ht
  obtain ⟨a, b, _⟩ := K.all t ht
  have h3 := G.h3
  have bg : (100 : Int) ≤ bigGap := by decide +kernel
  refine sm_tD (ns := [t.1, t.2.1, t.2.2]) (fun i hi => ?_) (by show 3 ≤ 12; decide)
  have e1 := W.e1
  have eb := W.eb
  have s0 := W.s0
  have s1 := W.s1
  simp only [List.mem_cons, List.not_mem_nil, or_false] at hi
  rcases hi with rfl | rfl | rfl
  · exact e300 (by omega) (by omega)
  · exact e300 (by omega) (by omega)
  · exact e300 (by omega) (by omega)
theorem odds_ok : ∀ x ∈ odds (ps.map trD), partsB hi gs x = false ∧ Sm 100000 8 x := by
  have l1 := G.l1
  have l8 := G.l8
  have sl : (ps.map trD).length = ps.length := List.length_map _
  have c1 := cut1 (ds := ps.map trD) (by omega)
  have sm := sheet_sm G h K hl
  have smT : ∀ L : List PyData, (∀ d ∈ L, Sm 4000 1 d) → L.length ≤ 16 → Sm 100000 8 (.tuple L) := fun L hL ll =>
    (sm_tup (n := 4000) (k := 1) ⟨hL⟩).up (Nat.le_trans (Nat.add_le_add_right (Nat.mul_le_mul_right _ ll) _) (by decide)) (by decide)
  intro x hx
  unfold odds at hx
  simp only [List.mem_cons, List.not_mem_nil, or_false] at hx
  rcases hx with rfl | rfl | rfl | rfl | rfl | rfl | rfl | rfl
  · exact ⟨rfl, sm_none.up (by decide) (by decide)⟩
  · refine ⟨len_bad (by show 0 ≠ _; omega), sm_up (sm_of (by decide +kernel))⟩
  · exact ⟨rfl, (sm_lst (n := 4000) (k := 1) ⟨sm⟩).up (Nat.le_trans (Nat.add_le_add_right (Nat.mul_le_mul_right _ (show (ps.map trD).length ≤ 8 by omega)) _) (by decide)) (by decide)⟩
  · refine ⟨len_bad (by rw [c1]; omega), smT _ (fun d hd => sm d (mem_cutD hd)) (by rw [c1]; omega)⟩
  · refine ⟨len_bad (by rw [List.length_append]; omega), smT _ (fun d hd => ?_) (by rw [List.length_append]; omega)⟩
    rcases List.mem_append.mp hd with q | q <;> exact sm d q
  · refine ⟨none_bad (List.mem_append_right _ (List.mem_singleton.mpr rfl)), smT _ (fun d hd => ?_) (by rw [List.length_append, c1]; show _ + 1 ≤ 16; omega)⟩
    rcases List.mem_append.mp hd with q | q
    · exact sm d (mem_cutD q)
    · rw [List.mem_singleton.mp q]
      exact sm_none.up (by decide) (by decide)
  · exact ⟨rfl, sm_up (sm_of (by decide +kernel))⟩
  · exact ⟨rfl, sm_up (sm_of (by decide +kernel))⟩
theorem f_refused : F_law_refused_right [.d (planD hi gs), .d (.tuple (ps.map trD))] = .ret (.d (.bool true)) := by
  have l1 := G.l1
  have l8 := G.l8
  have sl : (ps.map trD).length = ps.length := List.length_map _
  have b1 : Sm 100000 8 (.int (0 - 1)) := sm_up (sm_of (by decide +kernel))
  have t1 : Sm 100000 8 (.tuple [.int 1]) := sm_up (sm_of (by decide +kernel))
  have s1 : Sm 100000 8 (.str "1") := sm_up (sm_of (by decide +kernel))
  have s0 : Sm 100000 8 (.str "0") := sm_up (sm_of (by decide +kernel))
  have bt : Sm 100000 8 (.bool true) := sm_up (sm_of (by decide +kernel))
  have bn : Sm 100000 8 .none := sm_none.up (by decide) (by decide)
  refine fnT_rt rfl rfl ?_
  rw [ref_eq]
  obtain ⟨a2, a3, a4, ea⟩ := loop (gt := g2 (gN 2) (gN 3)) (b := l1B) (it := it1) (p := some (.d (planD hi gs))) (s := some (.d (.tuple (ps.map trD)))) (fun _ _ _ => it1_ret) (fun x hx o2 o3 o4 => by
    simp only [List.mem_cons, List.not_mem_nil, or_false] at hx
    rcases hx with rfl | rfl | rfl
    · exact ⟨_, _, _, _, rfl, plD_ok [] (by decide +kernel) (d := .none) rfl _ _ o4⟩
    · exact ⟨_, _, _, _, rfl, plD_ok [0] (by decide +kernel) (d := .tuple [.int 4, .tuple [.int 2]]) rfl _ _ o4⟩
    · exact ⟨_, _, _, _, rfl, plD_ok [1, 0] (by decide +kernel) (d := .tuple [.int 1, .tuple [.int 0]]) rfl _ _ o4⟩) none none none
  obtain ⟨b2, b3, b4, eb⟩ := loop (gt := gN 2) (b := l2B) (it := it2) (p := some (.d (planD hi gs))) (s := some (.d (.tuple (ps.map trD)))) (fun _ _ _ => it2_ret (by omega)) (fun x hx o2 o3 o4 => by
    obtain ⟨q1, q2⟩ := odds_ok G h K hl x hx
    exact ⟨_, _, _, _, rfl, l2_step G q1 q2 _ o3 o4⟩) a2 a3 a4
  obtain ⟨c2, c3, c4, ec⟩ := loop (gt := gN 2) (b := l3B) (it := it3) (p := some (.d (planD hi gs))) (s := some (.d (.tuple (ps.map trD)))) (fun _ _ _ => it3_ret) (fun x hx o2 o3 o4 => by
    have q : betw x 0 bigGap = false ∧ Sm 100000 8 x := by
      simp only [List.mem_cons, List.not_mem_nil, or_false] at hx
      rcases hx with rfl | rfl | rfl | rfl | rfl | rfl
      · exact ⟨rfl, bn⟩
      · exact ⟨rfl, b1⟩
      · refine ⟨by show (decide (0 ≤ bigGap + 1) && decide (bigGap + 1 ≤ bigGap)) = false; rw [decide_eq_false (show ¬ bigGap + 1 ≤ bigGap by omega), Bool.and_false], sm_up (sm_i (e300 ?_ ?_))⟩
        · have := bg0; omega
        · have : (1 : Int) ≤ bigGap := by decide +kernel
          omega
      · exact ⟨rfl, bt⟩
      · exact ⟨rfl, s1⟩
      · exact ⟨rfl, t1⟩
    exact ⟨_, _, _, _, rfl, l3_step G h q.1 q.2 o3 o4⟩) b2 b3 b4
  obtain ⟨d2, d3, d4, ed⟩ := loop (gt := gN 2) (b := l4B) (it := it4) (p := some (.d (planD hi gs))) (s := some (.d (.tuple (ps.map trD)))) (fun _ _ _ => it4_ret) (fun x hx o2 o3 o4 => by
    have q : betw x 0 ((gs.length : Int) - 1) = false ∧ Sm 100000 8 x := by
      simp only [List.mem_cons, List.not_mem_nil, or_false] at hx
      rcases hx with rfl | rfl | rfl | rfl | rfl
      · exact ⟨rfl, bn⟩
      · exact ⟨rfl, b1⟩
      · refine ⟨by show (decide (0 ≤ ((ps.map trD).length : Int)) && decide (((ps.map trD).length : Int) ≤ (gs.length : Int) - 1)) = false; rw [decide_eq_false (show ¬ ((ps.map trD).length : Int) ≤ (gs.length : Int) - 1 by omega), Bool.and_false], sm_up (sm_i (e300 ?_ ?_))⟩
        · omega
        · have : (100 : Int) ≤ bigGap := by decide +kernel
          omega
      · exact ⟨rfl, bt⟩
      · exact ⟨rfl, s0⟩
    exact ⟨_, _, _, _, rfl, l4_step G h q.1 q.2 o3 o4⟩) c2 c3 c4
  obtain ⟨e2, e3, e4, ee⟩ := loop (gt := gN 2) (b := l5B) (it := it5) (p := some (.d (planD hi gs))) (s := some (.d (.tuple (ps.map trD)))) (fun _ _ _ => it5_ret) (fun x hx o2 o3 o4 => by
    have q : betw x 0 1000 = false ∧ Sm 100000 8 x := by
      simp only [List.mem_cons, List.not_mem_nil, or_false] at hx
      rcases hx with rfl | rfl | rfl | rfl | rfl | rfl
      · exact ⟨rfl, bn⟩
      · exact ⟨rfl, b1⟩
      · exact ⟨rfl, sm_up (sm_of (by decide +kernel))⟩
      · exact ⟨rfl, bt⟩
      · exact ⟨rfl, s1⟩
      · exact ⟨rfl, t1⟩
    exact ⟨_, _, _, _, rfl, l5_step G h q.1 q.2 o3 o4⟩) d2 d3 d4
  exact seq_nx ea (seq_nx eb (seq_nx ec (seq_nx ed (seq_nx ee rfl))))
end
end K13
set_option Elab.async false
set_option linter.all false
set_option maxRecDepth 100000
set_option maxHeartbeats 4000000
namespace K13
open PySem L2 Gd PySem.ExG DC CpComb LamX RZ
set_option exponentiation.threshold 10000
theorem preOk : PreOk 7 m_law_pre := fun a => ⟨_, rfl, ρL_len (by decide), rfl⟩
def ρT (a : Addr) (m : V) (o3 o4 o5 o6 : Option DVal) : Dv := [some (.h (.ref a)), none, some (.h m), o3, o4, o5, o6]
section
variable {M : V → Prop} {X : XN} {n : Nat}
theorem body_step {m : V} (a : Addr) (hm : M m) (hn : n ≤ 1000) : (m_law_body (ρT a m none none none none)).Wp M n (fun n' o => ∃ o3 o4 o5 o6, o = .nx (ρT a m o3 o4 o5 o6)) X := by
  unfold m_law_body
  refine wp_seq ?_
  have made : (vCall F_law_made (aCons (vVar 2) aNil) (ρT a m none none none none)).Wp M n (madeP n) X := wp_call (xs := [.h m]) rfl (wp_made hm (by omega))
  refine T.Wp_bind.mpr (made.mono fun n1 x hx => ?_)
  obtain ⟨h1, hi, gs, ps, rfl, G, K, l1, hp⟩ := hx
  rw [asD_0]
  have u : g2 (gN 3) (gN 4) (.tuple [planD hi gs, .tuple (ps.map trD)]) (ρT a m none none none none) = some (ρT a m (some (.d (planD hi gs))) (some (.d (.tuple (ps.map trD)))) none none) := rfl
  rw [u]
  dsimp only
  rw [T.Wp_ret]
  dsimp only
  have l8 := K.l8
  have pb := hp
  rw [partsB_tup, Bool.and_eq_true, Bool.and_eq_true] at pb
  have hl := of_decide_eq_true pb.1
  rw [List.length_map] at hl
  have ha := pb.2.1
  have sS : Sm 100000 8 (.tuple (ps.map trD)) := (sm_tup (n := 4000) (k := 1) ⟨sheet_sm G hp K hl⟩).up (Nat.le_trans (Nat.add_le_add_right (Nat.mul_le_mul_right _ (show (ps.map trD).length ≤ 16 by rw [List.length_map]; omega)) _) (by decide)) (by decide)
  have sR : smR (.list [planD hi gs, .tuple (ps.map trD)]) = true := sm_smR (sm_two (n := 100000) (k := 8) ((sm_plan G).up (by decide) (by decide)) sS (by decide) (by decide))
  have rl : ∀ o5 o6, vRepr (vLst (aCons (vVar 3) (aCons (vVar 4) aNil))) (ρT a m (some (.d (planD hi gs))) (some (.d (.tuple (ps.map trD)))) o5 o6) = .ret (.d (.str (PyData.list [planD hi gs, .tuple (ps.map trD)]).shown)) := fun _ _ =>
    vRepr_ret (vLst_ret (xs := [.d (planD hi gs), .d (.tuple (ps.map trD))]) rfl rfl (by show 2 ≤ 5000; decide)) sR
  refine wp_seq_nx (ρ' := ρT a m (some (.d (planD hi gs))) (some (.d (.tuple (ps.map trD)))) (some (.d (.str (PyData.list [planD hi gs, .tuple (ps.map trD)]).shown))) none) (sAsg_ret (rl _ _)) ?_
  generalize hR : (PyData.list [planD hi gs, .tuple (ps.map trD)]).shown = R at rl
  refine wp_seq (wp_if (wp_tO (wp_tN (wp_tV (wp_call (xs := [.h m, .d (planD hi gs), .d (.tuple (ps.map trD))]) rfl ((wp_days_right G hp K.ok l8 hl K (fun t ht => (K.ok t ht).eb) hm (by omega)).mono fun n2 x hx => ?_))))))
  obtain ⟨h2, rfl⟩ := hx
  refine ⟨true, rfl, ?_⟩
  rw [if_neg (by decide)]
  refine wp_tN (wp_tV (wp_call (xs := [.h m, .d (planD hi gs), .d (.tuple (ps.map trD))]) rfl ((wp_row_right G hp K hl ha hm (by omega)).mono fun n3 x hx => ?_)))
  obtain ⟨h3, rfl⟩ := hx
  refine ⟨true, rfl, ?_⟩
  rw [if_neg (by decide)]
  refine T.Wp_r ?_
  refine wp_of_ret (x := .nx (ρT a m (some (.d (planD hi gs))) (some (.d (.tuple (ps.map trD)))) (some (.d (.str R))) none)) (sIf_f (tO_f (tN_ret (tV_ret (vCall_ret (xs := [.d (planD hi gs), .d (.tuple (ps.map trD))]) rfl (f_refused G hp K hl)))) (tV_ret (vNe_str (rl _ _) rfl))) rfl) ⟨_, _, _, _, rfl⟩
end
theorem bodyOk : BodyOk 7 2 m_law_body := fun a m => by
  have e : (ρL 7 a).set 2 (some (.h m)) = ρT a m none none none none := rfl
  rw [e]
  refine T.Wp.h (X := fun _ _ _ _ => False) ((body_step (M := fun v => v = m) a rfl (by decide)).mono fun n o ho => ?_)
  obtain ⟨o3, o4, o5, o6, rfl⟩ := ho
  exact ⟨_, .inl rfl, rfl, rfl⟩
end K13
set_option Elab.async false
set_option linter.all false
set_option maxRecDepth 100000
set_option maxHeartbeats 4000000
namespace K13
open PySem L2 Gd PySem.ExG DC CpComb LamX RZ
set_option exponentiation.threshold 10000

theorem post0 (a : Addr) : m_law_post (ρL 7 a) = .ret (.rt (.d (.bool true))) := by kernel_rfl
theorem postOk : PostOk 7 m_law_post := fun a => by
  rw [post0 a]
  exact rfl
end K13
set_option Elab.async false
set_option linter.all false
set_option maxRecDepth 100000
set_option maxHeartbeats 4000000
namespace K13
open PySem L2 Gd PySem.ExG LamX DC
set_option exponentiation.threshold 10000
/-- which errors «except S» names -/
theorem exm_is {K : PySem.W.Frag} {C S : Addr} {b : Bool} (h1 : PySem.W.subIn K (.ref S) (.type "BaseException") = some true) (h2 : PySem.W.isClsIn K S = true)
    (h3 : PySem.W.typeIn K (.ref S) = some (.type "type")) (h4 : PySem.W.subIn K (.ref C) (.ref S) = some b) : PySem.W.exmOne K (.ref C) (.ref S) = some b := by
  have e1 : (PySem.W.subIn K (.ref S) (.type "BaseException") == some true) = true := by rw [h1] <;> rfl
  have e2 : ((PySem.W.clsIn K S).isSome && PySem.W.typeIn K (.ref S) == some (.type "type")) = true := by
    have h2' : (PySem.W.clsIn K S).isSome = true := h2
    rw [h2', h3] <;> rfl
  show (if (PySem.W.subIn K (.ref S) (.type "BaseException") == some true) = true then
    (if ((PySem.W.clsIn K S).isSome && PySem.W.typeIn K (.ref S) == some (.type "type")) = true then PySem.W.subIn K (.ref C) (.ref S) else none) else none) = some b
  rw [if_pos e1, if_pos e2]
  exact h4
theorem at_mk {K : PySem.W.Frag} {h : Heap} {mg : Str → Option Value} {x : Str} {st : Stmt} {ps : List Str} {f : Addr} {oc : Value} {od an : Option Addr} {osl : Array (Option Value)} {kV doc pm cdv ct : Value}
    (X : K.In h) (G : h.Ns mainGlobals mg) (a : PySem.W.nsIn K mainGlobals x = some (some (.ref f)))
    (l : K.lookup f = some ⟨oc, od, .func (PySem.W.fnOf x x (defArgs st) (defBody st) (defScope st) .none kV doc pm an cdv ct), osl⟩) (c : PySem.W.codeIn K cdv x = true) (k : PySem.W.keepIn K (.ref f) = true)
    (hb : ∀ (kV doc pm : Value) (an : Option Addr) (cdv ct : Value) (us : List Value), us.length = ps.length → bindArgs (PySem.W.fnOf x x (defArgs st) (defBody st) (defScope st) .none kV doc pm an cdv ct) ⟨us, []⟩ = pure (ps.zip us)) :
    At K mg x st ps f (PySem.W.fnOf x x (defArgs st) (defBody st) (defScope st) .none kV doc pm an cdv ct) :=
  have F := fun_mk (st := st) l c k
  ⟨F, PySem.W.mg_of X G a, F.binds hb⟩
def csT : List (Addr × Addr) := [(311, 307)]
def tsT : List (Addr × Str) := [(307, lamQ "_law_refused_right")]

theorem all_mk {pr : Program} {w : World} {K : PySem.W.Frag} {h : Heap} {mg : Str → Option Value} {fa : Addr} {CP fP ccCP cdaCP TECP CN fN ccCN cdaCN TECN CR fR ccCR cdaCR TECR : Addr} (X : K.In h) (G : h.Ns mainGlobals mg) (hfa : mg "law" = some (.ref fa))
    {f1 f2 f3 f4 f5 f6 f7 f8 f9 f10 f11 f12 f13 f14 f15 f16 f17 f18 f19 f20 f21 f22 f23 f24 f25 f26 f27 f28 : Addr}
    {od1 an1 od2 an2 od3 an3 od4 an4 od5 an5 od6 an6 od7 an7 od8 an8 od9 an9 od10 an10 od11 an11 od12 an12 od13 an13 od14 an14 od15 an15 od16 an16 od17 an17 od18 an18 od19 an19 od20 an20 od21 an21 od22 an22 od23 an23 od24 an24 od25 an25 od26 an26 od27 an27 od28 an28 : Option Addr} {sl1 sl2 sl3 sl4 sl5 sl6 sl7 sl8 sl9 sl10 sl11 sl12 sl13 sl14 sl15 sl16 sl17 sl18 sl19 sl20 sl21 sl22 sl23 sl24 sl25 sl26 sl27 sl28 : Array (Option Value)}
    {oc1 kV1 dc1 pm1 cd1 ct1 oc2 kV2 dc2 pm2 cd2 ct2 oc3 kV3 dc3 pm3 cd3 ct3 oc4 kV4 dc4 pm4 cd4 ct4 oc5 kV5 dc5 pm5 cd5 ct5 oc6 kV6 dc6 pm6 cd6 ct6 oc7 kV7 dc7 pm7 cd7 ct7 oc8 kV8 dc8 pm8 cd8 ct8 oc9 kV9 dc9 pm9 cd9 ct9 oc10 kV10 dc10 pm10 cd10 ct10 oc11 kV11 dc11 pm11 cd11 ct11 oc12 kV12 dc12 pm12 cd12 ct12 oc13 kV13 dc13 pm13 cd13 ct13 oc14 kV14 dc14 pm14 cd14 ct14 oc15 kV15 dc15 pm15 cd15 ct15 oc16 kV16 dc16 pm16 cd16 ct16 oc17 kV17 dc17 pm17 cd17 ct17 oc18 kV18 dc18 pm18 cd18 ct18 oc19 kV19 dc19 pm19 cd19 ct19 oc20 kV20 dc20 pm20 cd20 ct20 oc21 kV21 dc21 pm21 cd21 ct21 oc22 kV22 dc22 pm22 cd22 ct22 oc23 kV23 dc23 pm23 cd23 ct23 oc24 kV24 dc24 pm24 cd24 ct24 oc25 kV25 dc25 pm25 cd25 ct25 oc26 kV26 dc26 pm26 cd26 ct26 oc27 kV27 dc27 pm27 ct27 oc28 kV28 dc28 pm28 cd28 ct28 : Value}
    {t0 t1 t2 t3 t4 : Tok}
    {tfCP : Tok} {nmCP qCP : Str} {NCP : Addr} {bsCP : List Value} {snCP : List Str} {subCP : List Value} {abCP : Bool} {colCP : Option Bool} {ddCP : Option Addr} {m0CP m1CP m2CP m3CP m5CP : Option Value}
    {ocCP docCP pmCP ctCP clCP cclCP : Value} {odCP anCP cldCP cddCP : Option Addr} {slCP cslCP ccsCP : Array (Option Value)} {vsCP : Array Value} {fileCP : Str}
    {tfCN : Tok} {nmCN qCN : Str} {NCN : Addr} {bsCN : List Value} {snCN : List Str} {subCN : List Value} {abCN : Bool} {colCN : Option Bool} {ddCN : Option Addr} {m0CN m1CN m2CN m3CN m5CN : Option Value}
    {ocCN docCN pmCN ctCN clCN cclCN : Value} {odCN anCN cldCN cddCN : Option Addr} {slCN cslCN ccsCN : Array (Option Value)} {vsCN : Array Value} {fileCN : Str}
    {tfCR : Tok} {nmCR qCR : Str} {NCR : Addr} {bsCR : List Value} {snCR : List Str} {subCR : List Value} {abCR : Bool} {colCR : Option Bool} {ddCR : Option Addr} {m0CR m1CR m2CR m3CR m5CR : Option Value}
    {ocCR docCR pmCR ctCR clCR cclCR : Value} {odCR anCR cldCR cddCR : Option Addr} {slCR cslCR ccsCR : Array (Option Value)} {vsCR : Array Value} {fileCR : Str}
    (a1 : PySem.W.nsIn K mainGlobals "is_whole" = some (some (.ref f1)))
    (l1 : K.lookup f1 = some ⟨oc1, od1, .func (PySem.W.fnOf "is_whole" "is_whole" (defArgs s_is_whole) (defBody s_is_whole) (defScope s_is_whole) .none kV1 dc1 pm1 an1 cd1 ct1), sl1⟩)
    (c1 : PySem.W.codeIn K cd1 "is_whole" = true)
    (k1 : PySem.W.keepIn K (.ref f1) = true)
    (a2 : PySem.W.nsIn K mainGlobals "is_between" = some (some (.ref f2)))
    (l2 : K.lookup f2 = some ⟨oc2, od2, .func (PySem.W.fnOf "is_between" "is_between" (defArgs s_is_between) (defBody s_is_between) (defScope s_is_between) .none kV2 dc2 pm2 an2 cd2 ct2), sl2⟩)
    (c2 : PySem.W.codeIn K cd2 "is_between" = true)
    (k2 : PySem.W.keepIn K (.ref f2) = true)
    (a3 : PySem.W.nsIn K mainGlobals "is_gap" = some (some (.ref f3)))
    (l3 : K.lookup f3 = some ⟨oc3, od3, .func (PySem.W.fnOf "is_gap" "is_gap" (defArgs s_is_gap) (defBody s_is_gap) (defScope s_is_gap) .none kV3 dc3 pm3 an3 cd3 ct3), sl3⟩)
    (c3 : PySem.W.codeIn K cd3 "is_gap" = true)
    (k3 : PySem.W.keepIn K (.ref f3) = true)
    (a4 : PySem.W.nsIn K mainGlobals "need_plan" = some (some (.ref f4)))
    (l4 : K.lookup f4 = some ⟨oc4, od4, .func (PySem.W.fnOf "need_plan" "need_plan" (defArgs s_need_plan) (defBody s_need_plan) (defScope s_need_plan) .none kV4 dc4 pm4 an4 cd4 ct4), sl4⟩)
    (c4 : PySem.W.codeIn K cd4 "need_plan" = true)
    (k4 : PySem.W.keepIn K (.ref f4) = true)
    (a5 : PySem.W.nsIn K mainGlobals "need_number" = some (some (.ref f5)))
    (l5 : K.lookup f5 = some ⟨oc5, od5, .func (PySem.W.fnOf "need_number" "need_number" (defArgs s_need_number) (defBody s_need_number) (defScope s_need_number) .none kV5 dc5 pm5 an5 cd5 ct5), sl5⟩)
    (c5 : PySem.W.codeIn K cd5 "need_number" = true)
    (k5 : PySem.W.keepIn K (.ref f5) = true)
    (a6 : PySem.W.nsIn K mainGlobals "is_part" = some (some (.ref f6)))
    (l6 : K.lookup f6 = some ⟨oc6, od6, .func (PySem.W.fnOf "is_part" "is_part" (defArgs s_is_part) (defBody s_is_part) (defScope s_is_part) .none kV6 dc6 pm6 an6 cd6 ct6), sl6⟩)
    (c6 : PySem.W.codeIn K cd6 "is_part" = true)
    (k6 : PySem.W.keepIn K (.ref f6) = true)
    (a7 : PySem.W.nsIn K mainGlobals "do_meet" = some (some (.ref f7)))
    (l7 : K.lookup f7 = some ⟨oc7, od7, .func (PySem.W.fnOf "do_meet" "do_meet" (defArgs s_do_meet) (defBody s_do_meet) (defScope s_do_meet) .none kV7 dc7 pm7 an7 cd7 ct7), sl7⟩)
    (c7 : PySem.W.codeIn K cd7 "do_meet" = true)
    (k7 : PySem.W.keepIn K (.ref f7) = true)
    (a8 : PySem.W.nsIn K mainGlobals "are_parts" = some (some (.ref f8)))
    (l8 : K.lookup f8 = some ⟨oc8, od8, .func (PySem.W.fnOf "are_parts" "are_parts" (defArgs s_are_parts) (defBody s_are_parts) (defScope s_are_parts) .none kV8 dc8 pm8 an8 cd8 ct8), sl8⟩)
    (c8 : PySem.W.codeIn K cd8 "are_parts" = true)
    (k8 : PySem.W.keepIn K (.ref f8) = true)
    (a9 : PySem.W.nsIn K mainGlobals "need_parts" = some (some (.ref f9)))
    (l9 : K.lookup f9 = some ⟨oc9, od9, .func (PySem.W.fnOf "need_parts" "need_parts" (defArgs s_need_parts) (defBody s_need_parts) (defScope s_need_parts) .none kV9 dc9 pm9 an9 cd9 ct9), sl9⟩)
    (c9 : PySem.W.codeIn K cd9 "need_parts" = true)
    (k9 : PySem.W.keepIn K (.ref f9) = true)
    (a10 : PySem.W.nsIn K mainGlobals "need_day_number" = some (some (.ref f10)))
    (l10 : K.lookup f10 = some ⟨oc10, od10, .func (PySem.W.fnOf "need_day_number" "need_day_number" (defArgs s_need_day_number) (defBody s_need_day_number) (defScope s_need_day_number) .none kV10 dc10 pm10 an10 cd10 ct10), sl10⟩)
    (c10 : PySem.W.codeIn K cd10 "need_day_number" = true)
    (k10 : PySem.W.keepIn K (.ref f10) = true)
    (a11 : PySem.W.nsIn K mainGlobals "come_on" = some (some (.ref f11)))
    (l11 : K.lookup f11 = some ⟨oc11, od11, .func (PySem.W.fnOf "come_on" "come_on" (defArgs s_come_on) (defBody s_come_on) (defScope s_come_on) .none kV11 dc11 pm11 an11 cd11 ct11), sl11⟩)
    (c11 : PySem.W.codeIn K cd11 "come_on" = true)
    (k11 : PySem.W.keepIn K (.ref f11) = true)
    (a12 : PySem.W.nsIn K mainGlobals "day_by" = some (some (.ref f12)))
    (l12 : K.lookup f12 = some ⟨oc12, od12, .func (PySem.W.fnOf "day_by" "day_by" (defArgs s_day_by) (defBody s_day_by) (defScope s_day_by) .none kV12 dc12 pm12 an12 cd12 ct12), sl12⟩)
    (c12 : PySem.W.codeIn K cd12 "day_by" = true)
    (k12 : PySem.W.keepIn K (.ref f12) = true)
    (a13 : PySem.W.nsIn K mainGlobals "next_by" = some (some (.ref f13)))
    (l13 : K.lookup f13 = some ⟨oc13, od13, .func (PySem.W.fnOf "next_by" "next_by" (defArgs s_next_by) (defBody s_next_by) (defScope s_next_by) .none kV13 dc13 pm13 an13 cd13 ct13), sl13⟩)
    (c13 : PySem.W.codeIn K cd13 "next_by" = true)
    (k13 : PySem.W.keepIn K (.ref f13) = true)
    (a14 : PySem.W.nsIn K mainGlobals "row_by" = some (some (.ref f14)))
    (l14 : K.lookup f14 = some ⟨oc14, od14, .func (PySem.W.fnOf "row_by" "row_by" (defArgs s_row_by) (defBody s_row_by) (defScope s_row_by) .none kV14 dc14 pm14 an14 cd14 ct14), sl14⟩)
    (c14 : PySem.W.codeIn K cd14 "row_by" = true)
    (k14 : PySem.W.keepIn K (.ref f14) = true)
    (a15 : PySem.W.nsIn K mainGlobals "_law_begun" = some (some (.ref f15)))
    (l15 : K.lookup f15 = some ⟨oc15, od15, .func (PySem.W.fnOf "_law_begun" "_law_begun" (defArgs s_law_begun) (defBody s_law_begun) (defScope s_law_begun) .none kV15 dc15 pm15 an15 cd15 ct15), sl15⟩)
    (c15 : PySem.W.codeIn K cd15 "_law_begun" = true)
    (k15 : PySem.W.keepIn K (.ref f15) = true)
    (a16 : PySem.W.nsIn K mainGlobals "_law_draw" = some (some (.ref f16)))
    (l16 : K.lookup f16 = some ⟨oc16, od16, .func (PySem.W.fnOf "_law_draw" "_law_draw" (defArgs s_law_draw) (defBody s_law_draw) (defScope s_law_draw) .none kV16 dc16 pm16 an16 cd16 ct16), sl16⟩)
    (c16 : PySem.W.codeIn K cd16 "_law_draw" = true)
    (k16 : PySem.W.keepIn K (.ref f16) = true)
    (a17 : PySem.W.nsIn K mainGlobals "_law_of" = some (some (.ref f17)))
    (l17 : K.lookup f17 = some ⟨oc17, od17, .func (PySem.W.fnOf "_law_of" "_law_of" (defArgs s_law_of) (defBody s_law_of) (defScope s_law_of) .none kV17 dc17 pm17 an17 cd17 ct17), sl17⟩)
    (c17 : PySem.W.codeIn K cd17 "_law_of" = true)
    (k17 : PySem.W.keepIn K (.ref f17) = true)
    (a18 : PySem.W.nsIn K mainGlobals "_law_go" = some (some (.ref f18)))
    (l18 : K.lookup f18 = some ⟨oc18, od18, .func (PySem.W.fnOf "_law_go" "_law_go" (defArgs s_law_go) (defBody s_law_go) (defScope s_law_go) .none kV18 dc18 pm18 an18 cd18 ct18), sl18⟩)
    (c18 : PySem.W.codeIn K cd18 "_law_go" = true)
    (k18 : PySem.W.keepIn K (.ref f18) = true)
    (a19 : PySem.W.nsIn K mainGlobals "_law_start" = some (some (.ref f19)))
    (l19 : K.lookup f19 = some ⟨oc19, od19, .func (PySem.W.fnOf "_law_start" "_law_start" (defArgs s_law_start) (defBody s_law_start) (defScope s_law_start) .none kV19 dc19 pm19 an19 cd19 ct19), sl19⟩)
    (c19 : PySem.W.codeIn K cd19 "_law_start" = true)
    (k19 : PySem.W.keepIn K (.ref f19) = true)
    (a20 : PySem.W.nsIn K mainGlobals "_law_said" = some (some (.ref f20)))
    (l20 : K.lookup f20 = some ⟨oc20, od20, .func (PySem.W.fnOf "_law_said" "_law_said" (defArgs s_law_said) (defBody s_law_said) (defScope s_law_said) .none kV20 dc20 pm20 an20 cd20 ct20), sl20⟩)
    (c20 : PySem.W.codeIn K cd20 "_law_said" = true)
    (k20 : PySem.W.keepIn K (.ref f20) = true)
    (a21 : PySem.W.nsIn K mainGlobals "_law_common" = some (some (.ref f21)))
    (l21 : K.lookup f21 = some ⟨oc21, od21, .func (PySem.W.fnOf "_law_common" "_law_common" (defArgs s_law_common) (defBody s_law_common) (defScope s_law_common) .none kV21 dc21 pm21 an21 cd21 ct21), sl21⟩)
    (c21 : PySem.W.codeIn K cd21 "_law_common" = true)
    (k21 : PySem.W.keepIn K (.ref f21) = true)
    (a22 : PySem.W.nsIn K mainGlobals "_law_meet" = some (some (.ref f22)))
    (l22 : K.lookup f22 = some ⟨oc22, od22, .func (PySem.W.fnOf "_law_meet" "_law_meet" (defArgs s_law_meet) (defBody s_law_meet) (defScope s_law_meet) .none kV22 dc22 pm22 an22 cd22 ct22), sl22⟩)
    (c22 : PySem.W.codeIn K cd22 "_law_meet" = true)
    (k22 : PySem.W.keepIn K (.ref f22) = true)
    (a23 : PySem.W.nsIn K mainGlobals "_law_made" = some (some (.ref f23)))
    (l23 : K.lookup f23 = some ⟨oc23, od23, .func (PySem.W.fnOf "_law_made" "_law_made" (defArgs s_law_made) (defBody s_law_made) (defScope s_law_made) .none kV23 dc23 pm23 an23 cd23 ct23), sl23⟩)
    (c23 : PySem.W.codeIn K cd23 "_law_made" = true)
    (k23 : PySem.W.keepIn K (.ref f23) = true)
    (a24 : PySem.W.nsIn K mainGlobals "_law_day" = some (some (.ref f24)))
    (l24 : K.lookup f24 = some ⟨oc24, od24, .func (PySem.W.fnOf "_law_day" "_law_day" (defArgs s_law_day) (defBody s_law_day) (defScope s_law_day) .none kV24 dc24 pm24 an24 cd24 ct24), sl24⟩)
    (c24 : PySem.W.codeIn K cd24 "_law_day" = true)
    (k24 : PySem.W.keepIn K (.ref f24) = true)
    (a25 : PySem.W.nsIn K mainGlobals "_law_days_right" = some (some (.ref f25)))
    (l25 : K.lookup f25 = some ⟨oc25, od25, .func (PySem.W.fnOf "_law_days_right" "_law_days_right" (defArgs s_law_days_right) (defBody s_law_days_right) (defScope s_law_days_right) .none kV25 dc25 pm25 an25 cd25 ct25), sl25⟩)
    (c25 : PySem.W.codeIn K cd25 "_law_days_right" = true)
    (k25 : PySem.W.keepIn K (.ref f25) = true)
    (a26 : PySem.W.nsIn K mainGlobals "_law_row_right" = some (some (.ref f26)))
    (l26 : K.lookup f26 = some ⟨oc26, od26, .func (PySem.W.fnOf "_law_row_right" "_law_row_right" (defArgs s_law_row_right) (defBody s_law_row_right) (defScope s_law_row_right) .none kV26 dc26 pm26 an26 cd26 ct26), sl26⟩)
    (c26 : PySem.W.codeIn K cd26 "_law_row_right" = true)
    (k26 : PySem.W.keepIn K (.ref f26) = true)
    (a27 : PySem.W.nsIn K mainGlobals "_law_refused_right" = some (some (.ref f27)))
    (l27 : K.lookup f27 = some ⟨oc27, od27, .func (PySem.W.fnOf "_law_refused_right" "_law_refused_right" (defArgs s_law_refused_right) (defBody s_law_refused_right) (defScope s_law_refused_right) .none kV27 dc27 pm27 an27 (.ref 311) ct27), sl27⟩)
    (c27 : PySem.W.codeIn K (.ref 311) "_law_refused_right" = true)
    (k27 : PySem.W.keepIn K (.ref f27) = true)
    (a28 : PySem.W.nsIn K mainGlobals "law" = some (some (.ref f28)))
    (l28 : K.lookup f28 = some ⟨oc28, od28, .func (PySem.W.fnOf "law" "law" (defArgs s_law) (defBody s_law) (defScope s_law) .none kV28 dc28 pm28 an28 cd28 ct28), sl28⟩)
    (c28 : PySem.W.codeIn K cd28 "law" = true)
    (k28 : PySem.W.keepIn K (.ref f28) = true)
    (z_all : PySem.W.nsIn K mainGlobals "all" = some none)
    (z_any : PySem.W.nsIn K mainGlobals "any" = some none)
    (z_bool : PySem.W.nsIn K mainGlobals "bool" = some none)
    (z_enumerate : PySem.W.nsIn K mainGlobals "enumerate" = some none)
    (z_int : PySem.W.nsIn K mainGlobals "int" = some none)
    (z_isinstance : PySem.W.nsIn K mainGlobals "isinstance" = some none)
    (z_len : PySem.W.nsIn K mainGlobals "len" = some none)
    (z_list : PySem.W.nsIn K mainGlobals "list" = some none)
    (z_min : PySem.W.nsIn K mainGlobals "min" = some none)
    (z_range : PySem.W.nsIn K mainGlobals "range" = some none)
    (z_repr : PySem.W.nsIn K mainGlobals "repr" = some none)
    (z_tuple : PySem.W.nsIn K mainGlobals "tuple" = some none)
    (z_zip : PySem.W.nsIn K mainGlobals "zip" = some none)
    (m0 : PySem.W.nsIn K mainGlobals "MOST_HANDS" = some (some (.int (3) t0)))
    (m1 : PySem.W.nsIn K mainGlobals "MOST_THINGS" = some (some (.int (8) t1)))
    (m2 : PySem.W.nsIn K mainGlobals "MOST_GAP" = some (some (.int (10 ^ 30) t2)))
    (m3 : PySem.W.nsIn K mainGlobals "MOST_DAY" = some (some (.int (10 ^ 30) t3)))
    (m4 : PySem.W.nsIn K mainGlobals "MOST_ROW" = some (some (.int (1000) t4)))
    (aCCP : PySem.W.nsIn K mainGlobals "BadPlan" = some (some (.ref CP)))
    (xLCP : K.lookup CP = some (excClassObj nmCP qCP CP NCP bsCP [.ref TECP, .type "ValueError", .type "Exception", .type "BaseException", .type "object"] true snCP subCP abCP colCP ddCP m0CP m1CP m2CP m3CP m5CP "ValueError.__new__"))
    (saCP : PySem.W.findIn K (.ref CP) "__setattr__" = some (some (.builtin "object.__setattr__")))
    (gaCP : PySem.W.findIn K (.ref CP) "__getattribute__" = some (some (.builtin "BaseException.__getattribute__")))
    (ggCP : PySem.W.findIn K (.ref CP) "__getattr__" = some none)
    (nbCP : PySem.W.findIn K (.ref CP) "place" = some none)
    (aICP : PySem.W.findIn K (.ref CP) "__init__" = some (some (.ref fP)))
    (tICP : PySem.W.typeIn K (.ref fP) = some (.type "function"))
    (lICP : K.lookup fP = some ⟨ocCP, odCP, .func (PySem.W.ksFn "__init__" "BadPlan.__init__" (eA "place" ⟨⟨8, 17, 8, 21⟩, ⟨8, 23, 8, 28⟩, ⟨9, 8, 9, 13⟩, ⟨9, 8, 9, 15⟩, ⟨9, 8, 9, 24⟩, ⟨9, 25, 9, 42⟩, ⟨9, 8, 9, 43⟩, ⟨9, 8, 9, 43⟩, ⟨10, 8, 10, 12⟩, ⟨10, 8, 10, 18⟩, ⟨10, 21, 10, 26⟩, ⟨10, 8, 10, 26⟩⟩) (eB "place" "this is no plan" ⟨⟨8, 17, 8, 21⟩, ⟨8, 23, 8, 28⟩, ⟨9, 8, 9, 13⟩, ⟨9, 8, 9, 15⟩, ⟨9, 8, 9, 24⟩, ⟨9, 25, 9, 42⟩, ⟨9, 8, 9, 43⟩, ⟨9, 8, 9, 43⟩, ⟨10, 8, 10, 12⟩, ⟨10, 8, 10, 18⟩, ⟨10, 21, 10, 26⟩, ⟨10, 8, 10, 26⟩⟩) (eS "place") .none .none docCP pmCP anCP (.ref cdaCP) ctCP ccCP), slCP⟩)
    (cICP : PySem.W.codeIn K (.ref cdaCP) "BadPlan.__init__" = true)
    (lcCP : K.lookup ccCP = some ⟨clCP, cldCP, .cell (some (.ref CP)), cslCP⟩)
    (ldCP : K.lookup cdaCP = some ⟨cclCP, cddCP, .fields vsCP, ccsCP⟩)
    (lvCP : vsCP[2]? = some (.str fileCP tfCP))
    (lfCP : ((pr.main.file : Str) == fileCP) = true)
    (tpCP : (pr.main.scope.names.lookup ("super" : Str)).isSome = false)
    (kCCP : PySem.W.keepIn K (.ref CP) = true)
    (eCCP : PySem.W.subIn K (.ref CP) (.type "BaseException") = some true)
    (tCCP : PySem.W.typeIn K (.ref CP) = some (.type "type"))
    (hCCP : PySem.W.hasDictIn K CP = true)
    (iCCP : PySem.W.isClsIn K CP = true)
    (sCCP : PySem.W.subIn K (.ref CP) (.ref CP) = some true)
    (suCP : PySem.W.ks_superIn K CP CP "__init__" = some (some (.builtin "ValueError.__init__")))
    (sVCP : PySem.W.subIn K (.ref CP) (.type "ValueError") = some true)
    (mCCP : PySem.W.mroIn K CP (.ref CP) = some true)
    (aCCN : PySem.W.nsIn K mainGlobals "BadNumber" = some (some (.ref CN)))
    (xLCN : K.lookup CN = some (excClassObj nmCN qCN CN NCN bsCN [.ref TECN, .type "ValueError", .type "Exception", .type "BaseException", .type "object"] true snCN subCN abCN colCN ddCN m0CN m1CN m2CN m3CN m5CN "ValueError.__new__"))
    (saCN : PySem.W.findIn K (.ref CN) "__setattr__" = some (some (.builtin "object.__setattr__")))
    (gaCN : PySem.W.findIn K (.ref CN) "__getattribute__" = some (some (.builtin "BaseException.__getattribute__")))
    (ggCN : PySem.W.findIn K (.ref CN) "__getattr__" = some none)
    (nbCN : PySem.W.findIn K (.ref CN) "value" = some none)
    (aICN : PySem.W.findIn K (.ref CN) "__init__" = some (some (.ref fN)))
    (tICN : PySem.W.typeIn K (.ref fN) = some (.type "function"))
    (lICN : K.lookup fN = some ⟨ocCN, odCN, .func (PySem.W.ksFn "__init__" "BadNumber.__init__" (eA "value" ⟨⟨13, 17, 13, 21⟩, ⟨13, 23, 13, 28⟩, ⟨14, 8, 14, 13⟩, ⟨14, 8, 14, 15⟩, ⟨14, 8, 14, 24⟩, ⟨14, 25, 14, 64⟩, ⟨14, 8, 14, 65⟩, ⟨14, 8, 14, 65⟩, ⟨15, 8, 15, 12⟩, ⟨15, 8, 15, 18⟩, ⟨15, 21, 15, 26⟩, ⟨15, 8, 15, 26⟩⟩) (eB "value" "this is no number that can stand here" ⟨⟨13, 17, 13, 21⟩, ⟨13, 23, 13, 28⟩, ⟨14, 8, 14, 13⟩, ⟨14, 8, 14, 15⟩, ⟨14, 8, 14, 24⟩, ⟨14, 25, 14, 64⟩, ⟨14, 8, 14, 65⟩, ⟨14, 8, 14, 65⟩, ⟨15, 8, 15, 12⟩, ⟨15, 8, 15, 18⟩, ⟨15, 21, 15, 26⟩, ⟨15, 8, 15, 26⟩⟩) (eS "value") .none .none docCN pmCN anCN (.ref cdaCN) ctCN ccCN), slCN⟩)
    (cICN : PySem.W.codeIn K (.ref cdaCN) "BadNumber.__init__" = true)
    (lcCN : K.lookup ccCN = some ⟨clCN, cldCN, .cell (some (.ref CN)), cslCN⟩)
    (ldCN : K.lookup cdaCN = some ⟨cclCN, cddCN, .fields vsCN, ccsCN⟩)
    (lvCN : vsCN[2]? = some (.str fileCN tfCN))
    (lfCN : ((pr.main.file : Str) == fileCN) = true)
    (tpCN : (pr.main.scope.names.lookup ("super" : Str)).isSome = false)
    (kCCN : PySem.W.keepIn K (.ref CN) = true)
    (eCCN : PySem.W.subIn K (.ref CN) (.type "BaseException") = some true)
    (tCCN : PySem.W.typeIn K (.ref CN) = some (.type "type"))
    (hCCN : PySem.W.hasDictIn K CN = true)
    (iCCN : PySem.W.isClsIn K CN = true)
    (sCCN : PySem.W.subIn K (.ref CN) (.ref CN) = some true)
    (suCN : PySem.W.ks_superIn K CN CN "__init__" = some (some (.builtin "ValueError.__init__")))
    (sVCN : PySem.W.subIn K (.ref CN) (.type "ValueError") = some true)
    (mCCN : PySem.W.mroIn K CN (.ref CN) = some true)
    (aCCR : PySem.W.nsIn K mainGlobals "BadParts" = some (some (.ref CR)))
    (xLCR : K.lookup CR = some (excClassObj nmCR qCR CR NCR bsCR [.ref TECR, .type "ValueError", .type "Exception", .type "BaseException", .type "object"] true snCR subCR abCR colCR ddCR m0CR m1CR m2CR m3CR m5CR "ValueError.__new__"))
    (saCR : PySem.W.findIn K (.ref CR) "__setattr__" = some (some (.builtin "object.__setattr__")))
    (gaCR : PySem.W.findIn K (.ref CR) "__getattribute__" = some (some (.builtin "BaseException.__getattribute__")))
    (ggCR : PySem.W.findIn K (.ref CR) "__getattr__" = some none)
    (nbCR : PySem.W.findIn K (.ref CR) "value" = some none)
    (aICR : PySem.W.findIn K (.ref CR) "__init__" = some (some (.ref fR)))
    (tICR : PySem.W.typeIn K (.ref fR) = some (.type "function"))
    (lICR : K.lookup fR = some ⟨ocCR, odCR, .func (PySem.W.ksFn "__init__" "BadParts.__init__" (eA "value" ⟨⟨18, 17, 18, 21⟩, ⟨18, 23, 18, 28⟩, ⟨19, 8, 19, 13⟩, ⟨19, 8, 19, 15⟩, ⟨19, 8, 19, 24⟩, ⟨19, 25, 19, 57⟩, ⟨19, 8, 19, 58⟩, ⟨19, 8, 19, 58⟩, ⟨20, 8, 20, 12⟩, ⟨20, 8, 20, 18⟩, ⟨20, 21, 20, 26⟩, ⟨20, 8, 20, 26⟩⟩) (eB "value" "these are no parts of the plan" ⟨⟨18, 17, 18, 21⟩, ⟨18, 23, 18, 28⟩, ⟨19, 8, 19, 13⟩, ⟨19, 8, 19, 15⟩, ⟨19, 8, 19, 24⟩, ⟨19, 25, 19, 57⟩, ⟨19, 8, 19, 58⟩, ⟨19, 8, 19, 58⟩, ⟨20, 8, 20, 12⟩, ⟨20, 8, 20, 18⟩, ⟨20, 21, 20, 26⟩, ⟨20, 8, 20, 26⟩⟩) (eS "value") .none .none docCR pmCR anCR (.ref cdaCR) ctCR ccCR), slCR⟩)
    (cICR : PySem.W.codeIn K (.ref cdaCR) "BadParts.__init__" = true)
    (lcCR : K.lookup ccCR = some ⟨clCR, cldCR, .cell (some (.ref CR)), cslCR⟩)
    (ldCR : K.lookup cdaCR = some ⟨cclCR, cddCR, .fields vsCR, ccsCR⟩)
    (lvCR : vsCR[2]? = some (.str fileCR tfCR))
    (lfCR : ((pr.main.file : Str) == fileCR) = true)
    (tpCR : (pr.main.scope.names.lookup ("super" : Str)).isSome = false)
    (kCCR : PySem.W.keepIn K (.ref CR) = true)
    (eCCR : PySem.W.subIn K (.ref CR) (.type "BaseException") = some true)
    (tCCR : PySem.W.typeIn K (.ref CR) = some (.type "type"))
    (hCCR : PySem.W.hasDictIn K CR = true)
    (iCCR : PySem.W.isClsIn K CR = true)
    (sCCR : PySem.W.subIn K (.ref CR) (.ref CR) = some true)
    (suCR : PySem.W.ks_superIn K CR CR "__init__" = some (some (.builtin "ValueError.__init__")))
    (sVCR : PySem.W.subIn K (.ref CR) (.type "ValueError") = some true)
    (mCCR : PySem.W.mroIn K CR (.ref CR) = some true)
    (gcd : PySem.W.nsIn K mainGlobals "gcd" = some (some (.builtin "math.gcd")))
    (comb : PySem.W.nsIn K mainGlobals "combinations" = some (some (.type "itertools.combinations")))
    {CT : Addr}
    (gT : PySem.W.nsIn K mainGlobals "TurnError" = some (some (.ref CT)))
    (eCT : PySem.W.subIn K (.ref CT) (.type "BaseException") = some true)
    (tCT : PySem.W.typeIn K (.ref CT) = some (.type "type"))
    (iCT : PySem.W.isClsIn K CT = true)
    (sg : PySem.W.specialIn K (.builtin "object.__class__") "__get__" = some (some (.builtin "getset_descriptor.__get__")))
    (tk : PySem.W.takesIn K (.builtin "object.__class__") = some true)
    (sT0 : PySem.W.subIn K (.ref CP) (.ref CT) = some true)
    (cl0 : PySem.W.findIn K (.ref CP) "__class__" = some (some (.builtin "object.__class__")))
    (mo0 : PySem.W.mroIn K CP (.type "object") = some true)
    (kt0_0 : PySem.W.kitOne K (.ref CP) (.ref CP) = some true)
    (kt0_1 : PySem.W.kitOne K (.ref CP) (.ref CN) = some false)
    (kt0_2 : PySem.W.kitOne K (.ref CP) (.ref CR) = some false)
    (sT1 : PySem.W.subIn K (.ref CN) (.ref CT) = some true)
    (cl1 : PySem.W.findIn K (.ref CN) "__class__" = some (some (.builtin "object.__class__")))
    (mo1 : PySem.W.mroIn K CN (.type "object") = some true)
    (kt1_0 : PySem.W.kitOne K (.ref CN) (.ref CP) = some false)
    (kt1_1 : PySem.W.kitOne K (.ref CN) (.ref CN) = some true)
    (kt1_2 : PySem.W.kitOne K (.ref CN) (.ref CR) = some false)
    (sT2 : PySem.W.subIn K (.ref CR) (.ref CT) = some true)
    (cl2 : PySem.W.findIn K (.ref CR) "__class__" = some (some (.builtin "object.__class__")))
    (mo2 : PySem.W.mroIn K CR (.type "object") = some true)
    (kt2_0 : PySem.W.kitOne K (.ref CR) (.ref CP) = some false)
    (kt2_1 : PySem.W.kitOne K (.ref CR) (.ref CN) = some false)
    (kt2_2 : PySem.W.kitOne K (.ref CR) (.ref CR) = some true)
    (op : PySem.W.nsIn K cStatics "thirdparty.any" = some none)
    (ns : PySem.W.nsIn K mainGlobals "super" = some none)
    : ∃ fd : FuncData, (∀ (s : Shared) (v : Value), BindsTo s fd ⟨[v], []⟩ [("script", v)]) ∧ ∀ base : Heap, K.In base → base.Ns mainGlobals mg → (∃ o, base.get? sysModules = some o) → (∀ p ∈ csT, TabB base mg p.1 p.2) → FnG pr w K mg base CX0 11 fa fd ["script"] (spLaw K tsT) := by
  have e := hfa.symm.trans (PySem.W.mg_of X G a28)
  cases e
  have A1 := at_mk (st := s_is_whole) (ps := ["value"]) X G a1 l1 c1 k1 (fun _ _ _ _ _ _ us hl => match us, hl with | [_], _ => rfl)
  have A2 := at_mk (st := s_is_between) (ps := ["value", "low", "high"]) X G a2 l2 c2 k2 (fun _ _ _ _ _ _ us hl => match us, hl with | [_, _, _], _ => rfl)
  have A3 := at_mk (st := s_is_gap) (ps := ["value"]) X G a3 l3 c3 k3 (fun _ _ _ _ _ _ us hl => match us, hl with | [_], _ => rfl)
  have A4 := at_mk (st := s_need_plan) (ps := ["thing"]) X G a4 l4 c4 k4 (fun _ _ _ _ _ _ us hl => match us, hl with | [_], _ => rfl)
  have A5 := at_mk (st := s_need_number) (ps := ["gaps", "number"]) X G a5 l5 c5 k5 (fun _ _ _ _ _ _ us hl => match us, hl with | [_, _], _ => rfl)
  have A6 := at_mk (st := s_is_part) (ps := ["hands", "gap", "value"]) X G a6 l6 c6 k6 (fun _ _ _ _ _ _ us hl => match us, hl with | [_, _, _], _ => rfl)
  have A7 := at_mk (st := s_do_meet) (ps := ["one", "other"]) X G a7 l7 c7 k7 (fun _ _ _ _ _ _ us hl => match us, hl with | [_, _], _ => rfl)
  have A8 := at_mk (st := s_are_parts) (ps := ["plan", "value"]) X G a8 l8 c8 k8 (fun _ _ _ _ _ _ us hl => match us, hl with | [_, _], _ => rfl)
  have A9 := at_mk (st := s_need_parts) (ps := ["plan", "parts"]) X G a9 l9 c9 k9 (fun _ _ _ _ _ _ us hl => match us, hl with | [_, _], _ => rfl)
  have A10 := at_mk (st := s_need_day_number) (ps := ["day"]) X G a10 l10 c10 k10 (fun _ _ _ _ _ _ us hl => match us, hl with | [_], _ => rfl)
  have A11 := at_mk (st := s_come_on) (ps := ["parts", "day"]) X G a11 l11 c11 k11 (fun _ _ _ _ _ _ us hl => match us, hl with | [_, _], _ => rfl)
  have A12 := at_mk (st := s_day_by) (ps := ["plan", "parts", "day"]) X G a12 l12 c12 k12 (fun _ _ _ _ _ _ us hl => match us, hl with | [_, _, _], _ => rfl)
  have A13 := at_mk (st := s_next_by) (ps := ["plan", "parts", "number", "day"]) X G a13 l13 c13 k13 (fun _ _ _ _ _ _ us hl => match us, hl with | [_, _, _, _], _ => rfl)
  have A14 := at_mk (st := s_row_by) (ps := ["plan", "parts", "many"]) X G a14 l14 c14 k14 (fun _ _ _ _ _ _ us hl => match us, hl with | [_, _, _], _ => rfl)
  have A15 := at_mk (st := s_law_begun) (ps := ["script", "k"]) X G a15 l15 c15 k15 (fun _ _ _ _ _ _ us hl => match us, hl with | [_, _], _ => rfl)
  have A16 := at_mk (st := s_law_draw) (ps := ["m", "many"]) X G a16 l16 c16 k16 (fun _ _ _ _ _ _ us hl => match us, hl with | [_, _], _ => rfl)
  have A17 := at_mk (st := s_law_of) (ps := ["m", "some"]) X G a17 l17 c17 k17 (fun _ _ _ _ _ _ us hl => match us, hl with | [_, _], _ => rfl)
  have A18 := at_mk (st := s_law_go) (ps := ["frame", "ages", "lot"]) X G a18 l18 c18 k18 (fun _ _ _ _ _ _ us hl => match us, hl with | [_, _, _], _ => rfl)
  have A19 := at_mk (st := s_law_start) (ps := ["frame"]) X G a19 l19 c19 k19 (fun _ _ _ _ _ _ us hl => match us, hl with | [_], _ => rfl)
  have A20 := at_mk (st := s_law_said) (ps := ["call"]) X G a20 l20 c20 k20 (fun _ _ _ _ _ _ us hl => match us, hl with | [_], _ => rfl)
  have A21 := at_mk (st := s_law_common) (ps := ["near", "far"]) X G a21 l21 c21 k21 (fun _ _ _ _ _ _ us hl => match us, hl with | [_, _], _ => rfl)
  have A22 := at_mk (st := s_law_meet) (ps := ["near", "far"]) X G a22 l22 c22 k22 (fun _ _ _ _ _ _ us hl => match us, hl with | [_, _], _ => rfl)
  have A23 := at_mk (st := s_law_made) (ps := ["m"]) X G a23 l23 c23 k23 (fun _ _ _ _ _ _ us hl => match us, hl with | [_], _ => rfl)
  have A24 := at_mk (st := s_law_day) (ps := ["sheet", "spot"]) X G a24 l24 c24 k24 (fun _ _ _ _ _ _ us hl => match us, hl with | [_, _], _ => rfl)
  have A25 := at_mk (st := s_law_days_right) (ps := ["m", "frame", "sheet"]) X G a25 l25 c25 k25 (fun _ _ _ _ _ _ us hl => match us, hl with | [_, _, _], _ => rfl)
  have A26 := at_mk (st := s_law_row_right) (ps := ["m", "frame", "sheet"]) X G a26 l26 c26 k26 (fun _ _ _ _ _ _ us hl => match us, hl with | [_, _, _], _ => rfl)
  have A27 := at_mk (st := s_law_refused_right) (ps := ["frame", "sheet"]) X G a27 l27 c27 k27 (fun _ _ _ _ _ _ us hl => match us, hl with | [_, _], _ => rfl)
  have A28 := at_mk (st := s_law) (ps := ["script"]) X G a28 l28 c28 k28 (fun _ _ _ _ _ _ us hl => match us, hl with | [_], _ => rfl)
  have Z_all := PySem.W.mg_none_of X G z_all
  have Z_any := PySem.W.mg_none_of X G z_any
  have Z_bool := PySem.W.mg_none_of X G z_bool
  have Z_enumerate := PySem.W.mg_none_of X G z_enumerate
  have Z_int := PySem.W.mg_none_of X G z_int
  have Z_isinstance := PySem.W.mg_none_of X G z_isinstance
  have Z_len := PySem.W.mg_none_of X G z_len
  have Z_list := PySem.W.mg_none_of X G z_list
  have Z_min := PySem.W.mg_none_of X G z_min
  have Z_range := PySem.W.mg_none_of X G z_range
  have Z_repr := PySem.W.mg_none_of X G z_repr
  have Z_tuple := PySem.W.mg_none_of X G z_tuple
  have Z_zip := PySem.W.mg_none_of X G z_zip
  have exCP : ExTxt pr K mg "BadPlan" "place" "this is no plan" CP fP :=
    { gC := PySem.W.mg_of X G aCCP, cls := ⟨nmCP, qCP, NCP, bsCP, _, snCP, subCP, abCP, colCP, ddCP, m0CP, m1CP, m2CP, m3CP, m5CP, xLCP, by first | rfl | decide⟩, sa := saCP, ga := gaCP, gg := ggCP, noN := nbCP, iC := aICP, tC := tICP, kC := kCCP, exC := eCCP, tyC := tCCP, hdC := hCCP,
      te := exm_is eCCP iCCP tCCP sCCP, sup := suCP, subV := sVCP, subm := mCCP, opq := op, nos := ns, top := tpCP,
      fn := ⟨_, _, _, _, _, _, _, _, _, _, _, _, _, _, _, _, _, _, _, _, lICP, cICP, by rfl, lcCP, ldCP, lvCP, lfCP⟩,
      kf := by decide +kernel, ks := by decide +kernel, kc := by decide +kernel, fdb := by decide +kernel, fse := by decide +kernel, bnd := fun _ _ _ _ _ _ _ _ _ _ => by rfl }
  have exCN : ExTxt pr K mg "BadNumber" "value" "this is no number that can stand here" CN fN :=
    { gC := PySem.W.mg_of X G aCCN, cls := ⟨nmCN, qCN, NCN, bsCN, _, snCN, subCN, abCN, colCN, ddCN, m0CN, m1CN, m2CN, m3CN, m5CN, xLCN, by first | rfl | decide⟩, sa := saCN, ga := gaCN, gg := ggCN, noN := nbCN, iC := aICN, tC := tICN, kC := kCCN, exC := eCCN, tyC := tCCN, hdC := hCCN,
      te := exm_is eCCN iCCN tCCN sCCN, sup := suCN, subV := sVCN, subm := mCCN, opq := op, nos := ns, top := tpCN,
      fn := ⟨_, _, _, _, _, _, _, _, _, _, _, _, _, _, _, _, _, _, _, _, lICN, cICN, by rfl, lcCN, ldCN, lvCN, lfCN⟩,
      kf := by decide +kernel, ks := by decide +kernel, kc := by decide +kernel, fdb := by decide +kernel, fse := by decide +kernel, bnd := fun _ _ _ _ _ _ _ _ _ _ => by rfl }
  have exCR : ExTxt pr K mg "BadParts" "value" "these are no parts of the plan" CR fR :=
    { gC := PySem.W.mg_of X G aCCR, cls := ⟨nmCR, qCR, NCR, bsCR, _, snCR, subCR, abCR, colCR, ddCR, m0CR, m1CR, m2CR, m3CR, m5CR, xLCR, by first | rfl | decide⟩, sa := saCR, ga := gaCR, gg := ggCR, noN := nbCR, iC := aICR, tC := tICR, kC := kCCR, exC := eCCR, tyC := tCCR, hdC := hCCR,
      te := exm_is eCCR iCCR tCCR sCCR, sup := suCR, subV := sVCR, subm := mCCR, opq := op, nos := ns, top := tpCR,
      fn := ⟨_, _, _, _, _, _, _, _, _, _, _, _, _, _, _, _, _, _, _, _, lICR, cICR, by rfl, lcCR, ldCR, lvCR, lfCR⟩,
      kf := by decide +kernel, ks := by decide +kernel, kc := by decide +kernel, fdb := by decide +kernel, fse := by decide +kernel, bnd := fun _ _ _ _ _ _ _ _ _ _ => by rfl }
  have T : Tx pr K mg t0 t1 t2 t3 t4 CP fP CN fN CR fR := ⟨Z_all, Z_any, Z_bool, Z_enumerate, Z_int, Z_isinstance, Z_len, Z_list, Z_min, Z_range, Z_repr, Z_tuple, Z_zip, PySem.W.mg_of X G gcd, PySem.W.mg_of X G comb, PySem.W.mg_of X G m0, PySem.W.mg_of X G m1, PySem.W.mg_of X G m2, PySem.W.mg_of X G m3, PySem.W.mg_of X G m4, exCP, exCN, exCR, ⟨_, _, A1⟩, ⟨_, _, A2⟩, ⟨_, _, A3⟩, ⟨_, _, A4⟩, ⟨_, _, A5⟩, ⟨_, _, A6⟩, ⟨_, _, A7⟩, ⟨_, _, A8⟩, ⟨_, _, A9⟩, ⟨_, _, A10⟩, ⟨_, _, A11⟩, ⟨_, _, A12⟩, ⟨_, _, A13⟩, ⟨_, _, A14⟩, ⟨_, _, A15⟩, ⟨_, _, A16⟩, ⟨_, _, A17⟩, ⟨_, _, A18⟩, ⟨_, _, A19⟩, ⟨_, _, A20⟩, ⟨_, _, A21⟩, ⟨_, _, A22⟩, ⟨_, _, A23⟩, ⟨_, _, A24⟩, ⟨_, _, A25⟩, ⟨_, _, A26⟩, ⟨_, _, A27⟩⟩
  have ap : Apart K mg CT CP CN CR := ⟨PySem.W.mg_of X G gT, exm_is eCT iCT tCT sT0, ⟨gaCP, ggCP, eCCP, hCCP, cl0, sg, tk, mo0⟩, kt0_0, kt0_1, kt0_2, exm_is eCT iCT tCT sT1, ⟨gaCN, ggCN, eCCN, hCCN, cl1, sg, tk, mo1⟩, kt1_0, kt1_1, kt1_2, exm_is eCT iCT tCT sT2, ⟨gaCR, ggCR, eCCR, hCCR, cl2, sg, tk, mo2⟩, kt2_0, kt2_1, kt2_2, trivial⟩
  refine ⟨PySem.W.fnOf "law" "law" (defArgs s_law) (defBody s_law) (defScope s_law) .none kV28 dc28 pm28 an28 cd28 ct28, fun s v => .of_eq rfl, fun base _ _ sy tt => ?_⟩
  have H_law_draw := h_law_draw (w := w) (base := base) (Ts := tsT) T
  have H_law_of := h_law_of (w := w) (base := base) (Ts := tsT) T H_law_draw
  have H_law_common := h_law_common (w := w) (base := base) (Ts := tsT) T
  have H_law_meet := h_law_meet (w := w) (base := base) (Ts := tsT) T H_law_common
  have H_law_made := h_law_made (w := w) (base := base) (Ts := tsT) T H_law_of H_law_draw H_law_meet
  have H_is_whole := h_is_whole (w := w) (base := base) (Ts := tsT) T
  have H_is_between := h_is_between (w := w) (base := base) (Ts := tsT) T H_is_whole
  have H_is_gap := h_is_gap (w := w) (base := base) (Ts := tsT) T H_is_between
  have H_need_plan := h_need_plan (w := w) (base := base) (Ts := tsT) T H_is_between H_is_gap
  have H_is_part := h_is_part (w := w) (base := base) (Ts := tsT) T H_is_between
  have H_do_meet := h_do_meet (w := w) (base := base) (Ts := tsT) T
  have H_are_parts := h_are_parts (w := w) (base := base) (Ts := tsT) T H_need_plan H_is_part H_do_meet
  have H_need_parts := h_need_parts (w := w) (base := base) (Ts := tsT) T H_are_parts
  have H_come_on := h_come_on (w := w) (base := base) (Ts := tsT) T
  have H_row_by := h_row_by (w := w) (base := base) (Ts := tsT) T H_need_parts H_is_between H_come_on
  have H_need_number := h_need_number (w := w) (base := base) (Ts := tsT) T H_is_between
  have H_need_day_number := h_need_day_number (w := w) (base := base) (Ts := tsT) T H_is_between
  have H_next_by := h_next_by (w := w) (base := base) (Ts := tsT) T H_need_plan H_need_parts H_need_number H_need_day_number
  have H_day_by := h_day_by (w := w) (base := base) (Ts := tsT) T H_need_parts H_come_on H_need_day_number
  have H_law_day := h_law_day (w := w) (base := base) (Ts := tsT) T
  have H_law_days_right := h_law_days_right (w := w) (base := base) (Ts := tsT) T H_law_draw H_law_day H_day_by H_next_by sy
  have H_law_start := h_law_start (w := w) (base := base) (Ts := tsT) T
  have H_law_go := h_law_go (w := w) (base := base) (Ts := tsT) T
  have H_law_row_right := h_law_row_right (w := w) (base := base) (Ts := tsT) T H_law_of H_law_start H_law_go H_law_day H_row_by sy
  have AC27 : AtC K mg "_law_refused_right" s_law_refused_right ["frame", "sheet"] 311 := ⟨_, _, _, _, _, _, _, _, _, l27, c27, A27.g, A27.F.kp, A27.b⟩
  have H_law_refused_right := h_law_refused_right (w := w) (base := base) (Ts := tsT) T ap H_day_by H_next_by H_row_by sy AC27 (tt (311, 307) (by simp [csT])) (by simp [tsT]) (by intro p hp; simp only [tsT, List.mem_cons, List.not_mem_nil, or_false] at hp; rcases hp with rfl <;> intro z <;> first | (exact absurd z (by decide)) | rfl)
  exact ok_law (Ts := tsT) A28.F T H_law_made H_row_by H_next_by H_day_by H_law_days_right H_law_row_right H_law_refused_right sy preOk bodyOk postOk
end K13
open PySem PySem.W PyProof.Rows
set_option maxRecDepth 100000 in
set_option maxHeartbeats 0 in
theorem PySem.Challenge.cw_oftenenough_k13_days_by_parts_holds : PySem.Challenge.rw_oftenenough_k13_days_by_parts.Holds := by
  w_on; o_law; k_head; (case hw => w_witness2)
  k_fill
  refine Gd.walkT (l := PySem.Challenge.rw_oftenenough_k13_days_by_parts) (n := 63) (k := 11) (x := "script") (cs := K13.csT) (sp := fun w => DC.spLaw (_ : PySem.W.Frag) K13.tsT) (by first | rfl | decide +kernel) rfl (by decide) rfl ⟨rfl, by decide, by decide⟩
    (fun w h Y => ⟨PySem.W.km_in_of Y, fun p hp => ?qy⟩) (fun w p hp => ?ql) (fun w h Y X p hp => ?qc) ?F (fun w H a ns hl O hS => ⟨a, ns, rfl, hS, hl, fun p hp => ?qt, fun _ => rfl⟩)
  case qy =>
    refine PySem.W.km_tabs_of Y p.2 ?_
    simp only [K13.csT, List.mem_cons, List.not_mem_nil, or_false] at hp
    rcases hp with rfl <;> simp
  case ql =>
    simp only [K13.csT, List.mem_cons, List.not_mem_nil, or_false] at hp
    rcases hp with rfl <;> rfl
  case qc =>
    refine PySem.W.codeHd_of_K X ?_
    simp only [K13.csT, List.mem_cons, List.not_mem_nil, or_false] at hp
    rcases hp with rfl <;> rfl
  case qt =>
    refine LamX.TabS.nil (O.tb p.1 ?_)
    simp only [K13.tsT, List.mem_cons, List.not_mem_nil, or_false] at hp
    rcases hp with rfl <;> simp [K13.csT]
  case F =>
    intro w mg fa h KX G hmg
    refine' K13.all_mk KX G hmg ?a1 ?l1 ?c1 ?k1 ?a2 ?l2 ?c2 ?k2 ?a3 ?l3 ?c3 ?k3 ?a4 ?l4 ?c4 ?k4 ?a5 ?l5 ?c5 ?k5 ?a6 ?l6 ?c6 ?k6 ?a7 ?l7 ?c7 ?k7 ?a8 ?l8 ?c8 ?k8 ?a9 ?l9 ?c9 ?k9 ?a10 ?l10 ?c10 ?k10 ?a11 ?l11 ?c11 ?k11 ?a12 ?l12 ?c12 ?k12 ?a13 ?l13 ?c13 ?k13 ?a14 ?l14 ?c14 ?k14 ?a15 ?l15 ?c15 ?k15 ?a16 ?l16 ?c16 ?k16 ?a17 ?l17 ?c17 ?k17 ?a18 ?l18 ?c18 ?k18 ?a19 ?l19 ?c19 ?k19 ?a20 ?l20 ?c20 ?k20 ?a21 ?l21 ?c21 ?k21 ?a22 ?l22 ?c22 ?k22 ?a23 ?l23 ?c23 ?k23 ?a24 ?l24 ?c24 ?k24 ?a25 ?l25 ?c25 ?k25 ?a26 ?l26 ?c26 ?k26 ?a27 ?l27 ?c27 ?k27 ?a28 ?l28 ?c28 ?k28 ?z_all ?z_any ?z_bool ?z_enumerate ?z_int ?z_isinstance ?z_len ?z_list ?z_min ?z_range ?z_repr ?z_tuple ?z_zip ?m0 ?m1 ?m2 ?m3 ?m4 ?aCCP ?xLCP ?saCP ?gaCP ?ggCP ?nbCP ?aICP ?tICP ?lICP ?cICP ?lcCP ?ldCP ?lvCP ?lfCP ?tpCP ?kCCP ?eCCP ?tCCP ?hCCP ?iCCP ?sCCP ?suCP ?sVCP ?mCCP ?aCCN ?xLCN ?saCN ?gaCN ?ggCN ?nbCN ?aICN ?tICN ?lICN ?cICN ?lcCN ?ldCN ?lvCN ?lfCN ?tpCN ?kCCN ?eCCN ?tCCN ?hCCN ?iCCN ?sCCN ?suCN ?sVCN ?mCCN ?aCCR ?xLCR ?saCR ?gaCR ?ggCR ?nbCR ?aICR ?tICR ?lICR ?cICR ?lcCR ?ldCR ?lvCR ?lfCR ?tpCR ?kCCR ?eCCR ?tCCR ?hCCR ?iCCR ?sCCR ?suCR ?sVCR ?mCCR ?gcd ?comb ?gT ?eCT ?tCT ?iCT ?sg ?tk ?sT0 ?cl0 ?mo0 ?kt0_0 ?kt0_1 ?kt0_2 ?sT1 ?cl1 ?mo1 ?kt1_0 ?kt1_1 ?kt1_2 ?sT2 ?cl2 ?mo2 ?kt2_0 ?kt2_1 ?kt2_2 ?op ?ns
    (case a1 => k_is)
    (case l1 => k_is)
    (case c1 => k_is)
    (case k1 => k_is)
    (case a2 => k_is)
    (case l2 => k_is)
    (case c2 => k_is)
    (case k2 => k_is)
    (case a3 => k_is)
    (case l3 => k_is)
    (case c3 => k_is)
    (case k3 => k_is)
    (case a4 => k_is)
    (case l4 => k_is)
    (case c4 => k_is)
    (case k4 => k_is)
    (case a5 => k_is)
    (case l5 => k_is)
    (case c5 => k_is)
    (case k5 => k_is)
    (case a6 => k_is)
    (case l6 => k_is)
    (case c6 => k_is)
    (case k6 => k_is)
    (case a7 => k_is)
    (case l7 => k_is)
    (case c7 => k_is)
    (case k7 => k_is)
    (case a8 => k_is)
    (case l8 => k_is)
    (case c8 => k_is)
    (case k8 => k_is)
    (case a9 => k_is)
    (case l9 => k_is)
    (case c9 => k_is)
    (case k9 => k_is)
    (case a10 => k_is)
    (case l10 => k_is)
    (case c10 => k_is)
    (case k10 => k_is)
    (case a11 => k_is)
    (case l11 => k_is)
    (case c11 => k_is)
    (case k11 => k_is)
    (case a12 => k_is)
    (case l12 => k_is)
    (case c12 => k_is)
    (case k12 => k_is)
    (case a13 => k_is)
    (case l13 => k_is)
    (case c13 => k_is)
    (case k13 => k_is)
    (case a14 => k_is)
    (case l14 => k_is)
    (case c14 => k_is)
    (case k14 => k_is)
    (case a15 => k_is)
    (case l15 => k_is)
    (case c15 => k_is)
    (case k15 => k_is)
    (case a16 => k_is)
    (case l16 => k_is)
    (case c16 => k_is)
    (case k16 => k_is)
    (case a17 => k_is)
    (case l17 => k_is)
    (case c17 => k_is)
    (case k17 => k_is)
    (case a18 => k_is)
    (case l18 => k_is)
    (case c18 => k_is)
    (case k18 => k_is)
    (case a19 => k_is)
    (case l19 => k_is)
    (case c19 => k_is)
    (case k19 => k_is)
    (case a20 => k_is)
    (case l20 => k_is)
    (case c20 => k_is)
    (case k20 => k_is)
    (case a21 => k_is)
    (case l21 => k_is)
    (case c21 => k_is)
    (case k21 => k_is)
    (case a22 => k_is)
    (case l22 => k_is)
    (case c22 => k_is)
    (case k22 => k_is)
    (case a23 => k_is)
    (case l23 => k_is)
    (case c23 => k_is)
    (case k23 => k_is)
    (case a24 => k_is)
    (case l24 => k_is)
    (case c24 => k_is)
    (case k24 => k_is)
    (case a25 => k_is)
    (case l25 => k_is)
    (case c25 => k_is)
    (case k25 => k_is)
    (case a26 => k_is)
    (case l26 => k_is)
    (case c26 => k_is)
    (case k26 => k_is)
    (case a27 => k_is)
    (case l27 => k_is)
    (case c27 => k_is)
    (case k27 => k_is)
    (case a28 => k_is)
    (case l28 => k_is)
    (case c28 => k_is)
    (case k28 => k_is)
    (case z_all => k_is)
    (case z_any => k_is)
    (case z_bool => k_is)
    (case z_enumerate => k_is)
    (case z_int => k_is)
    (case z_isinstance => k_is)
    (case z_len => k_is)
    (case z_list => k_is)
    (case z_min => k_is)
    (case z_range => k_is)
    (case z_repr => k_is)
    (case z_tuple => k_is)
    (case z_zip => k_is)
    (case m0 => k_is)
    (case m1 => k_is)
    (case m2 => k_is)
    (case m3 => k_is)
    (case m4 => k_is)
    (case aCCP => k_is)
    (case xLCP => k_is)
    (case saCP => k_is)
    (case gaCP => k_is)
    (case ggCP => k_is)
    (case nbCP => k_is)
    (case aICP => k_is)
    (case tICP => k_is)
    (case lICP => k_is)
    (case cICP => k_is)
    (case lcCP => k_is)
    (case ldCP => k_is)
    (case lvCP => rfl)
    (case lfCP => (first | rfl | decide +kernel))
    (case tpCP => (first | rfl | decide +kernel))
    (case kCCP => k_is)
    (case eCCP => k_is)
    (case tCCP => k_is)
    (case hCCP => k_is)
    (case iCCP => k_is)
    (case sCCP => (first | rfl | k_is))
    (case suCP => (first | k_is | kernel_rfl))
    (case sVCP => k_is)
    (case mCCP => (first | rfl | k_is))
    (case aCCN => k_is)
    (case xLCN => k_is)
    (case saCN => k_is)
    (case gaCN => k_is)
    (case ggCN => k_is)
    (case nbCN => k_is)
    (case aICN => k_is)
    (case tICN => k_is)
    (case lICN => k_is)
    (case cICN => k_is)
    (case lcCN => k_is)
    (case ldCN => k_is)
    (case lvCN => rfl)
    (case lfCN => (first | rfl | decide +kernel))
    (case tpCN => (first | rfl | decide +kernel))
    (case kCCN => k_is)
    (case eCCN => k_is)
    (case tCCN => k_is)
    (case hCCN => k_is)
    (case iCCN => k_is)
    (case sCCN => (first | rfl | k_is))
    (case suCN => (first | k_is | kernel_rfl))
    (case sVCN => k_is)
    (case mCCN => (first | rfl | k_is))
    (case aCCR => k_is)
    (case xLCR => k_is)
    (case saCR => k_is)
    (case gaCR => k_is)
    (case ggCR => k_is)
    (case nbCR => k_is)
    (case aICR => k_is)
    (case tICR => k_is)
    (case lICR => k_is)
    (case cICR => k_is)
    (case lcCR => k_is)
    (case ldCR => k_is)
    (case lvCR => rfl)
    (case lfCR => (first | rfl | decide +kernel))
    (case tpCR => (first | rfl | decide +kernel))
    (case kCCR => k_is)
    (case eCCR => k_is)
    (case tCCR => k_is)
    (case hCCR => k_is)
    (case iCCR => k_is)
    (case sCCR => (first | rfl | k_is))
    (case suCR => (first | k_is | kernel_rfl))
    (case sVCR => k_is)
    (case mCCR => (first | rfl | k_is))
    (case gcd => k_is)
    (case comb => k_is)
    (case gT => k_is)
    (case eCT => k_is)
    (case tCT => k_is)
    (case iCT => k_is)
    (case sg => (first | k_is | rfl | kernel_rfl | decide +kernel))
    (case tk => (first | k_is | rfl | kernel_rfl | decide +kernel))
    (case sT0 => (first | rfl | k_is | kernel_rfl))
    (case cl0 => (first | k_is | rfl | kernel_rfl | decide +kernel))
    (case mo0 => (first | k_is | rfl | kernel_rfl | decide +kernel))
    (case kt0_0 => (first | rfl | k_is | kernel_rfl))
    (case kt0_1 => (first | rfl | k_is | kernel_rfl))
    (case kt0_2 => (first | rfl | k_is | kernel_rfl))
    (case sT1 => (first | rfl | k_is | kernel_rfl))
    (case cl1 => (first | k_is | rfl | kernel_rfl | decide +kernel))
    (case mo1 => (first | k_is | rfl | kernel_rfl | decide +kernel))
    (case kt1_0 => (first | rfl | k_is | kernel_rfl))
    (case kt1_1 => (first | rfl | k_is | kernel_rfl))
    (case kt1_2 => (first | rfl | k_is | kernel_rfl))
    (case sT2 => (first | rfl | k_is | kernel_rfl))
    (case cl2 => (first | k_is | rfl | kernel_rfl | decide +kernel))
    (case mo2 => (first | k_is | rfl | kernel_rfl | decide +kernel))
    (case kt2_0 => (first | rfl | k_is | kernel_rfl))
    (case kt2_1 => (first | rfl | k_is | kernel_rfl))
    (case kt2_2 => (first | rfl | k_is | kernel_rfl))
    (case op => k_is)
    (case ns => k_is)
